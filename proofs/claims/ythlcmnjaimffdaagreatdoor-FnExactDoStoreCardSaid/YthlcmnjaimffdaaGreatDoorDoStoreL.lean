/-
  FnExactDoStore returns true for every store, time and command, where strconv's variables hold what the program's text lays in them: the walk of the law.
-/
import Derived.Test.YthlcmnjaimffdaaGreatDoorShelfAQ
import Derived.Test.YthlcmnjaimffdaaGreatDoorVarsF
import Derived.Test.YthlcmnjaimffdaaGreatDoorItems
import Derived.Test.YthlcmnjaimffdaaGreatDoorTexts
import Derived.Test.YthlcmnjaimffdaaGreatDoorTextM
import Derived.Deep.RegionWith
import Derived.Deep.RegionHeld3
import Derived.Deep.DeepCutAuto
namespace Go.Proofs.YthlcmnjaimffdaaGreatDoor
namespace DoStoreL
open Go.RowKit Base Items Store Marks
set_option linter.unusedVariables false

/-- Three cells of a block; seven. -/
def Box3 (W : World) (b : Nat) (v0 v1 v2 : Value) : Prop := W.cell? ⟨b, 0, none⟩ = some v0 ∧ W.cell? ⟨b, 1, none⟩ = some v1 ∧ W.cell? ⟨b, 2, none⟩ = some v2
theorem Box3.below {W W' : World} {b B : Nat} {v0 v1 v2 : Value} (h : Box3 W b v0 v1 v2) (hb : Below B W W') (hB : b < B) : Box3 W' b v0 v1 v2 := by
  have e := fun o => hb.cell (p := ⟨b, o, none⟩) hB
  exact ⟨(e _).trans h.1, (e _).trans h.2.1, (e _).trans h.2.2⟩
theorem Box3.gb {W W' : World} {b : Nat} {v0 v1 v2 : Value} {r : Option Nat} (h : Box3 W b v0 v1 v2) (hg : W.grownBy W' r) (hb : b < W.heap.size) (hne : some b ≠ r) : Box3 W' b v0 v1 v2 := by
  have e := fun o => World.cell?_of_block (w := W) (a := ⟨b, o, none⟩) (hg.block b hb hne)
  exact ⟨(e _).trans h.1, (e _).trans h.2.1, (e _).trans h.2.2⟩
theorem box3 (w : World) (t : TypeId) (v0 v1 v2 : Value) : Box3 (w.alloc (.cells #[v0, v1, v2] t)) w.heap.size v0 v1 v2 := by
  refine ⟨?_, ?_, ?_⟩
  all_goals rw [World.cell?_alloc_new]; rfl
def Box7 (W : World) (b : Nat) (v0 v1 v2 v3 v4 v5 v6 : Value) : Prop := W.cell? ⟨b, 0, none⟩ = some v0 ∧ W.cell? ⟨b, 1, none⟩ = some v1 ∧ W.cell? ⟨b, 2, none⟩ = some v2 ∧ W.cell? ⟨b, 3, none⟩ = some v3 ∧ W.cell? ⟨b, 4, none⟩ = some v4 ∧ W.cell? ⟨b, 5, none⟩ = some v5 ∧ W.cell? ⟨b, 6, none⟩ = some v6
theorem Box7.below {W W' : World} {b B : Nat} {v0 v1 v2 v3 v4 v5 v6 : Value} (h : Box7 W b v0 v1 v2 v3 v4 v5 v6) (hb : Below B W W') (hB : b < B) : Box7 W' b v0 v1 v2 v3 v4 v5 v6 := by
  have e := fun o => hb.cell (p := ⟨b, o, none⟩) hB
  obtain ⟨h0, h1, h2, h3, h4, h5, h6⟩ := h
  exact ⟨(e _).trans h0, (e _).trans h1, (e _).trans h2, (e _).trans h3, (e _).trans h4, (e _).trans h5, (e _).trans h6⟩
theorem Box7.gb {W W' : World} {b : Nat} {v0 v1 v2 v3 v4 v5 v6 : Value} {r : Option Nat} (h : Box7 W b v0 v1 v2 v3 v4 v5 v6) (hg : W.grownBy W' r) (hb : b < W.heap.size) (hne : some b ≠ r) : Box7 W' b v0 v1 v2 v3 v4 v5 v6 := by
  have e := fun o => World.cell?_of_block (w := W) (a := ⟨b, o, none⟩) (hg.block b hb hne)
  obtain ⟨h0, h1, h2, h3, h4, h5, h6⟩ := h
  exact ⟨(e _).trans h0, (e _).trans h1, (e _).trans h2, (e _).trans h3, (e _).trans h4, (e _).trans h5, (e _).trans h6⟩
theorem box7 (w : World) (t : TypeId) (v0 v1 v2 v3 v4 v5 v6 : Value) : Box7 (w.alloc (.cells #[v0, v1, v2, v3, v4, v5, v6] t)) w.heap.size v0 v1 v2 v3 v4 v5 v6 := by
  refine ⟨?_, ?_, ?_, ?_, ?_, ?_, ?_⟩
  all_goals rw [World.cell?_alloc_new]; rfl
theorem Box7.at {W : World} {b c : Nat} {v0 v1 v2 v3 v4 v5 v6 : Value} (h : Box7 W b v0 v1 v2 v3 v4 v5 v6) (e : c = b) : Box7 W c v0 v1 v2 v3 v4 v5 v6 := by rw [e]; exact h
/-- A new box of zeros among the blocks behind W, wherever it was laid. -/
structure Bz (W u : World) (g : Nat) : Prop where
  lo : W.heap.size ≤ g
  lt : g < u.heap.size
  box : Box3 u g (.int .i64 0) (.int .i64 0) (.slice none 0 0)
  fz : ∀ o, u.frozen? ⟨g, o, none⟩ = false
theorem Bz.new {W X : World} (t : TypeId) (hX : Below W.heap.size W X) : Bz W (X.alloc (.cells #[.int .i64 0, .int .i64 0, .slice none 0 0] t)) X.heap.size :=
  ⟨hX.size, by simp, box3 X t _ _ _, fun o => by simp⟩
theorem Bz.below {W u u' : World} {g : Nat} (h : Bz W u g) (hb : Below u.heap.size u u') : Bz W u' g :=
  ⟨h.lo, Nat.lt_of_lt_of_le h.lt hb.size, h.box.below hb h.lt, fun o => (hb.frozen (p := ⟨g, o, none⟩) h.lt).trans (h.fz o)⟩
theorem Bz.ne {W u : World} {g : Nat} (h : Bz W u g) {r : Option Nat} (hr : ∀ k, r = some k → u.heap.size ≤ k) : ∀ k, r = some k → some k ≠ some g := fun k e e' => by
  have h1 := hr k e
  have h2 := h.lt
  simp only [Option.some.injEq] at e'
  omega
theorem Bz.lt3 {W u : World} {g : Nat} (h : Bz W u g) (v0 v1 v2 : Value) : g < (((u.setCell ⟨g, 0, none⟩ v0).setCell ⟨g, 1, none⟩ v1).setCell ⟨g, 2, none⟩ v2).heap.size := by simpa [World.setCell] using h.lt
theorem Bz.put {W u : World} {g : Nat} (h : Bz W u g) (l n : Int) (v2 : Value) : Box3 (((u.setCell ⟨g, 0, none⟩ (.int .i64 l)).setCell ⟨g, 1, none⟩ (.int .i64 n)).setCell ⟨g, 2, none⟩ v2) g (.int .i64 l) (.int .i64 n) v2 := by
  obtain ⟨-, -, ⟨h0, h1, h2⟩, f0⟩ := h
  refine ⟨?_, ?_, ?_⟩
  all_goals go_simp
theorem Bz.ours {W u : World} {g : Nat} (h : Bz W u g) {a : Option Addr} {m : Nat} {f : Nat → Value} {r : Option Nat} (ho : Ours u a m f r) (hne : ∀ k, r = some k → some k ≠ some g) (v0 v1 v2 : Value) : Ours (((u.setCell ⟨g, 0, none⟩ v0).setCell ⟨g, 1, none⟩ v1).setCell ⟨g, 2, none⟩ v2) a m f r :=
  ho.gb (gb_set (gb_set (gb_set (gb_below (Below.refl u.heap.size u) (Nat.le_refl _)) 0 v0) 1 v1) 2 v2) hne
theorem Bz.bel {W u : World} {g : Nat} (h : Bz W u g) (hB : Below W.heap.size W u) (v0 v1 v2 : Value) : Below W.heap.size W (((u.setCell ⟨g, 0, none⟩ v0).setCell ⟨g, 1, none⟩ v1).setCell ⟨g, 2, none⟩ v2) :=
  ((hB.setCell (p := ⟨g, 0, none⟩) h.lo v0).setCell (p := ⟨g, 1, none⟩) h.lo v1).setCell (p := ⟨g, 2, none⟩) h.lo v2
theorem doR_len (lim nx : Int) (its : List Itm) (now : Int) (nm : List UInt8) (ks : List ByteArray) (f x n : Int) (dt : ByteArray) (q : Bool) : (Shelf.doR lim nx its now nm ks f x n dt q).its.length ≤ 61 := by
  have h0 : Shelf.noDone.its.length ≤ 61 := by decide
  unfold Shelf.doR
  split
  · rename_i g1
    split
    · split
      · exact (Shelf.ans_len (Shelf.keep_ok now (Shelf.store_ok g1).2.2)).1
      · exact h0
    · exact h0
  · exact h0

/-- What the model and the program must be shown to do. -/
def Spec : Prop := ∀ (lim nx : Int) (b off cap : Nat) (its : List Itm) (now : Int) (nm : ByteArray) (kb ko kc : Nat) (ks : List ByteArray) (f x n : Int) (dt : ByteArray) (q : Bool) (w : World),
    b < w.heap.size → (∀ i, i < its.length → At w b (off + i * 5) (its.getD i zero)) → its.length ≤ 1048576 → its.length ≤ cap → (∀ x ∈ its, Fits x) →
    kb < w.heap.size → (∀ i, i < ks.length → w.cell? ⟨kb, ko + i, none⟩ = some (.string (ks.getD i ByteArray.empty))) → ks.length ≤ maxLen → (∀ s ∈ ks, s.size ≤ maxLen) → dt.size ≤ maxLen →
    Calls Tryz.prog 6 #[.agg #[.int .i64 lim, .int .i64 nx, .slice (some ⟨b, off, none⟩) its.length cap], .int .i64 now, .agg #[.string nm, .slice (some ⟨kb, ko, none⟩) ks.length kc, .int .i64 f, .int .i64 x, .int .i64 n, .string dt, .bool q]] w
      (Shelf.DoEnd (Shelf.doR lim nx its now nm.toList ks f x n dt q) w)
def Impl : Prop := ∀ (lim nx : Int) (b off cap : Nat) (its : List Itm) (now : Int) (nm : ByteArray) (kb ko kc : Nat) (ks : List ByteArray) (f x n : Int) (dt : ByteArray) (q : Bool) (w : World),
    b < w.heap.size → (∀ i, i < its.length → At w b (off + i * 5) (its.getD i zero)) → its.length ≤ 1048576 → its.length ≤ cap → (∀ x ∈ its, Fits x) →
    kb < w.heap.size → (∀ i, i < ks.length → w.cell? ⟨kb, ko + i, none⟩ = some (.string (ks.getD i ByteArray.empty))) → ks.length ≤ maxLen → (∀ s ∈ ks, s.size ≤ maxLen) → dt.size ≤ maxLen → Shelf.VarsF w →
    Calls Tryz.prog 9 #[.agg #[.int .i64 lim, .int .i64 nx, .slice (some ⟨b, off, none⟩) its.length cap], .int .i64 now, .agg #[.string nm, .slice (some ⟨kb, ko, none⟩) ks.length kc, .int .i64 f, .int .i64 x, .int .i64 n, .string dt, .bool q]] w
      (Shelf.DoEnd (Shelf.doR lim nx its now nm.toList ks f x n dt q) w)

set_option maxRecDepth 100000 in
set_option maxHeartbeats 8000000 in
theorem walk0 (hspec : Spec) (himpl : Impl) (lim nx : Int) (a : Option Addr) (cap : Nat) (its : List Itm) (now : Int) (nm : ByteArray) (ka : Option Addr) (kcap : Nat) (ks : List ByteArray) (f x n : Int) (dt : ByteArray) (q : Bool) (w : World)
    (hc : ItemsAt w a its) (hcap : its.length ≤ cap) (hl : its.length ≤ maxLen) (hs : ∀ x ∈ its, Fits x) (hnow : (Lit.int .i64 now).wf = true) (hck : StrsAt w ka ks) (hnm : nm.size ≤ maxLen) (hdt : dt.size ≤ maxLen) (hkl : ks.length ≤ maxLen) (hks : ∀ s ∈ ks, s.size ≤ maxLen) (hv : Shelf.VarsF w) :
    Calls Tryz.prog 3 #[.agg #[.int .i64 lim, .int .i64 nx, .slice a its.length cap], .int .i64 now, .agg #[.string nm, .slice ka ks.length kcap, .int .i64 f, .int .i64 x, .int .i64 n, .string dt, .bool q]] w fun e w' => e = .returned (.bool true) ∧ Below w.heap.size w w' := by
  have HC := hide hc
  have HCK := hide hck
  have HS := hide hs
  have HKS := hide hks
  have HV := hide hv
  have HLM := hide hl
  have HKM := hide hkl
  have HDM := hide hdt
  have hzl := @szIs_len its 1048576
  have hbd := szIs_bd its 1048576 (by omega)
  have hsz := fun w' (h : ItemsAt w' a its) => szStore_any lim nx a cap its 1048576 w' h hl hs (by omega) (by omega)
  generalize szIs its 1048576 = z at hzl hsz hbd
  have HSZ := hide hsz
  clear hc hs hsz hnow hck hks hv
  by_cases hz : z < 0
  · clear hzl hbd
    go_enter Tryz.func3, Tryz.ntmps3
    go_wp2_with fail
    refine (unhide HSZ _ ((unhide HC).below (bel2 w _ _) (Nat.le_refl _))).mono ?_
    rintro e w2 ⟨rfl, hb2⟩
    simp only [World.size_alloc] at hb2
    have hB2 := hide ((bel2 w _ _).trans (hb2.mono (by omega)))
    clear hb2
    go_wp2
    go_ret
    exact ⟨rfl, unhide hB2⟩
  have hlen : its.length ≤ 1048576 := by have := hzl hz; omega
  have hzk := @CmdC.szC_len nm ks dt z
  have hszk := fun w' (h : StrsAt w' ka ks) => CmdC.sz_any nm ka kcap ks f x n dt q z w' h hnm hdt hkl (unhide HKS) (by omega) (by omega)
  generalize CmdC.szC nm ks dt z = zk at hzk hszk
  have HSZK := hide hszk
  clear hzl hszk
  by_cases hzk0 : zk < 0
  · clear hzk hbd
    go_enter Tryz.func3, Tryz.ntmps3
    go_wp2_with fail
    refine (unhide HSZ _ ((unhide HC).below (bel2 w _ _) (Nat.le_refl _))).mono ?_
    rintro e w2 ⟨rfl, hb2⟩
    simp only [World.size_alloc] at hb2
    have hB2 := hide ((bel2 w _ _).trans (hb2.mono (by omega)))
    have C2 := hide (((box7 (w.alloc (.cells #[.int .i64 lim, .int .i64 nx, .slice a its.length cap] 24)) 27 (.string nm) (.slice ka ks.length kcap) (.int .i64 f) (.int .i64 x) (.int .i64 n) (.string dt) (.bool q)).at (c := w.heap.size + 1) (by simp)).below hb2 (by omega))
    clear hb2
    obtain ⟨c0, c1, c2, c3, c4, c5, c6⟩ := unhide C2
    go_wp2_with fail
    refine (unhide HSZK _ ((unhide HCK).below (unhide hB2) (Nat.le_refl _))).mono ?_
    rintro e w3 ⟨rfl, hb3⟩
    have hB3 := hide ((unhide hB2).trans (hb3.mono (unhide hB2).size))
    clear hb3
    go_wp2
    go_ret
    exact ⟨rfl, unhide hB3⟩
  have hlenk : ks.length ≤ 1048576 := by have := hzk hzk0; omega
  clear hzk hbd hl hkl hnm hdt
  have hsp := fun b kb w hb hc hkb hkc => hspec lim nx b 0 its.length its now nm kb 0 ks.length ks f x n dt q w hb hc hlen (Nat.le_refl _) (unhide HS) hkb hkc (unhide HKM) (unhide HKS) (unhide HDM)
  have him := fun b kb w hb hc hkb hkc hv => himpl lim nx b 0 its.length its now nm kb 0 ks.length ks f x n dt q w hb hc hlen (Nat.le_refl _) (unhide HS) hkb hkc (unhide HKM) (unhide HKS) (unhide HDM) hv
  have hdl := doR_len lim nx its now nm.toList ks f x n dt q
  generalize Shelf.doR lim nx its now nm.toList ks f x n dt q = T at hsp him hdl
  obtain ⟨tl, tn, ti, ta, tm, tok⟩ := T
  dsimp only at hdl
  have HSP := hide hsp
  have HIM := hide him
  clear hsp him
  have hok : (tok != tok) = false := by cases tok <;> rfl
  go_enter Tryz.func3, Tryz.ntmps3
  go_wp2_with fail
  refine (unhide HSZ _ ((unhide HC).below (bel2 w _ _) (Nat.le_refl _))).mono ?_
  rintro e w2 ⟨rfl, hb2⟩
  simp only [World.size_alloc] at hb2
  have Bw2 := hide ((bel2 w _ _).trans (hb2.mono (by omega)))
  have Aw2 := hide (((box3 w 24 (.int .i64 lim) (.int .i64 nx) (.slice a its.length cap)).below (bel1 _ _) (by simp)).below hb2 (by omega))
  have Cw2 := hide (((box7 (w.alloc (.cells #[.int .i64 lim, .int .i64 nx, .slice a its.length cap] 24)) 27 (.string nm) (.slice ka ks.length kcap) (.int .i64 f) (.int .i64 x) (.int .i64 n) (.string dt) (.bool q)).at (c := w.heap.size + 1) (by simp)).below hb2 (by omega))
  have zw2 : w.heap.size + 1 < w2.heap.size := by have := hb2.size; simp at this; omega
  clear hb2
  obtain ⟨cq0, cq1, cq2, cq3, cq4, cq5, cq6⟩ := unhide Cw2
  go_wp2_with fail
  refine (unhide HSZK _ ((unhide HCK).below (unhide Bw2) (Nat.le_refl _))).mono ?_
  rintro e w3 ⟨rfl, hb⟩
  have Aw3 := hide ((unhide Aw2).below hb (by omega))
  have Cw3 := hide ((unhide Cw2).below hb (by omega))
  have Bw3 := hide ((unhide Bw2).trans (hb.mono (unhide Bw2).size))
  have zw3 : w2.heap.size ≤ w3.heap.size := hb.size
  clear hb
  clear Aw2 Cw2 Bw2
  clear cq0 cq1 cq2 cq3 cq4 cq5 cq6
  go_upto_region 8 with fail
  go_cut [8, 9, 10, 11] (fun s0 s1 s2 s3 wx => ∃ (g4 : Nat) (a4 : Option Addr) (c4 : Nat) (r4 : Option Nat), s0 = .pointer (some ⟨g4, 0, none⟩) ∧ s1 = .string ta ∧ s2 = .int .i64 tm ∧ s3 = .bool tok ∧ w3.heap.size ≤ g4 ∧ g4 < wx.heap.size ∧ Hid (Box3 wx g4 (.int .i64 tl) (.int .i64 tn) (.slice a4 ti.length c4)) ∧ Hid (Ours wx a4 ti.length (icell ti) r4) ∧ Hid (Below w3.heap.size w3 wx))
  case first =>
    obtain ⟨x0, x1, x2⟩ := unhide Aw3
    obtain ⟨c0, c1, c2, c3, c4, c5, c6⟩ := unhide Cw3
    have HSX : Hid (∀ u, Below w3.heap.size w3 u → ItemsAt u a its) := fun u hu => (unhide HC).below ((unhide Bw3).trans (hu.mono (unhide Bw3).size)) (Nat.le_refl _)
    have HKX : Hid (∀ u, Below w3.heap.size w3 u → StrsAt u ka ks) := fun u hu => (unhide HCK).below ((unhide Bw3).trans (hu.mono (unhide Bw3).size)) (Nat.le_refl _)
    have HVX : Hid (∀ u, Below w3.heap.size w3 u → Shelf.VarsF u) := fun u hu => (unhide HV).below ((unhide Bw3).trans (hu.mono (unhide Bw3).size))
    have HSK : Hid (∀ u, Below w3.heap.size w3 u → (u.cell? ⟨w.heap.size, 0, none⟩ = some (.int .i64 lim) ∧ u.cell? ⟨w.heap.size, 1, none⟩ = some (.int .i64 nx) ∧ u.cell? ⟨w.heap.size, 2, none⟩ = some (.slice a its.length cap) ∧ u.cell? ⟨w.heap.size + 1, 0, none⟩ = some (.string nm) ∧ u.cell? ⟨w.heap.size + 1, 1, none⟩ = some (.slice ka ks.length kcap) ∧ u.cell? ⟨w.heap.size + 1, 2, none⟩ = some (.int .i64 f) ∧ u.cell? ⟨w.heap.size + 1, 3, none⟩ = some (.int .i64 x) ∧ u.cell? ⟨w.heap.size + 1, 4, none⟩ = some (.int .i64 n) ∧ u.cell? ⟨w.heap.size + 1, 5, none⟩ = some (.string dt) ∧ u.cell? ⟨w.heap.size + 1, 6, none⟩ = some (.bool q))) := fun u hu => by
      have hA := (unhide Aw3).below hu (by omega)
      have hC := (unhide Cw3).below hu (by omega)
      obtain ⟨y0, y1, y2⟩ := hA
      obtain ⟨y3, y4, y5, y6, y7, y8, y9⟩ := hC
      exact ⟨y0, y1, y2, y3, y4, y5, y6, y7, y8, y9⟩
    have BW0 : Hid (Below w3.heap.size w3 w3.drew) := (Below.refl _ _).drew
    have qc : w.heap.size + 1 < w3.heap.size := by omega
    have qa : w.heap.size < w3.heap.size := by omega
    go_region_held3 (fun u => u.cell? ⟨w.heap.size, 0, none⟩ = some (.int .i64 lim) ∧ u.cell? ⟨w.heap.size, 1, none⟩ = some (.int .i64 nx) ∧ u.cell? ⟨w.heap.size, 2, none⟩ = some (.slice a its.length cap) ∧ u.cell? ⟨w.heap.size + 1, 0, none⟩ = some (.string nm) ∧ u.cell? ⟨w.heap.size + 1, 1, none⟩ = some (.slice ka ks.length kcap) ∧ u.cell? ⟨w.heap.size + 1, 2, none⟩ = some (.int .i64 f) ∧ u.cell? ⟨w.heap.size + 1, 3, none⟩ = some (.int .i64 x) ∧ u.cell? ⟨w.heap.size + 1, 4, none⟩ = some (.int .i64 n) ∧ u.cell? ⟨w.heap.size + 1, 5, none⟩ = some (.string dt) ∧ u.cell? ⟨w.heap.size + 1, 6, none⟩ = some (.bool q)) (first | exact unhide HSK _ (unhide BW6) | exact unhide HSK _ ((unhide BW6).alloc (unhide BW6).size _) | exact unhide HSK _ (unhide BW5) | exact unhide HSK _ ((unhide BW5).alloc (unhide BW5).size _) | exact unhide HSK _ (unhide BW4) | exact unhide HSK _ ((unhide BW4).alloc (unhide BW4).size _) | exact unhide HSK _ (unhide BW0) | exact unhide HSK _ ((unhide BW0).alloc (unhide BW0).size _) | exact unhide HSK _ ((unhide BX6).bel (unhide BW6) _ _ _) | assumption) (first | (go_at_call 7; (refine (toStore_any lim nx a cap its _ (by first | exact unhide HSX _ (unhide BW0) | exact unhide HSX _ ((unhide BW0).alloc (unhide BW0).size _)) hlen).mono ?_; rintro e u4 ⟨b4, rfl, -, hrow4, hbel4⟩; (first | (have BW4 := hide ((unhide BW0).trans (hbel4.mono (unhide BW0).size)); (try (have BX4 := hide ((unhide BX0).below hbel4)))) | (have PB : Below w3.heap.size w3 _ := (unhide BW0).alloc (unhide BW0).size (.cells #[.int .i64 0, .int .i64 0, .slice none 0 0] 32); have BW4 := hide (PB.trans (hbel4.mono PB.size)); have BX4 : Hid (Bz w3 u4 w3.heap.size) := hide ((Bz.new 32 (unhide BW0)).below hbel4); clear PB)); have q4 : w.heap.size + 1 < u4.heap.size := Nat.lt_of_lt_of_le qc (unhide BW4).size; have ROW4 := hide hrow4; clear hrow4 hbel4)) | (go_at_call 8; (refine (CmdC.to_any nm ka kcap ks f x n dt q _ (by first | exact unhide HKX _ (unhide BW4) | exact unhide HKX _ ((unhide BW4).alloc (unhide BW4).size _)) hlenk).mono ?_; rintro e u5 ⟨b5, rfl, -, hrow5, hbel5⟩; (first | (have BW5 := hide ((unhide BW4).trans (hbel5.mono (unhide BW4).size)); (try (have BX5 := hide ((unhide BX4).below hbel5)))) | (have PB : Below w3.heap.size w3 _ := (unhide BW4).alloc (unhide BW4).size (.cells #[.int .i64 0, .int .i64 0, .slice none 0 0] 32); have BW5 := hide (PB.trans (hbel5.mono PB.size)); have BX5 := hide ((Bz.new 32 (unhide BW4)).below hbel5); clear PB)); have ROW5 := hide hrow5; have ROW45 : Hid (u5.rowIs b4 71 (its.length * 5) (icell its)) := (by first | exact (unhide ROW4).of_block (hbel5.block b4 (unhide ROW4).lt) | exact ((unhide ROW4).alloc _).of_block (hbel5.block b4 ((unhide ROW4).alloc _).lt)); clear hrow5 hbel5)) | (go_at_call 6; (refine (unhide HSP b4 b5 _ (by first | exact (unhide ROW45).lt | exact ((unhide ROW45).alloc _).lt) (by first | exact at_row (unhide ROW45) | exact at_row ((unhide ROW45).alloc _)) (by first | exact (unhide ROW5).lt | exact ((unhide ROW5).alloc _).lt) (by first | exact Strs.at_row (unhide ROW5) | exact Strs.at_row ((unhide ROW5).alloc _))).mono ?_; rintro e u6 ⟨a6, c6', r6, rfl, ho6, hr6, hb6⟩; (first | (have BW6 := hide ((unhide BW5).trans (hb6.mono (unhide BW5).size)); (try (have BX6 := hide ((unhide BX5).below hb6)); (try (have NE6 := hide ((unhide BX5).ne hr6))))) | (have PB : Below w3.heap.size w3 _ := (unhide BW5).alloc (unhide BW5).size (.cells #[.int .i64 0, .int .i64 0, .slice none 0 0] 32); have BW6 := hide (PB.trans (hb6.mono PB.size)); have BX6 := hide ((Bz.new 32 (unhide BW5)).below hb6); have NE6 := hide ((Bz.new 32 (unhide BW5)).ne hr6); clear PB)); have O6 := hide ho6; clear ho6 hr6 hb6; try (obtain ⟨-, -, ⟨k0, k1, k2⟩, kf⟩ := unhide BX6))))
    all_goals
      go_wp2_with fail
      go_meet
      first
      | exact ⟨u6.heap.size, a6, c6', r6, rfl, rfl, rfl, rfl, (unhide BW6).size, by simp, hide (box3 u6 _ _ _ _), hide ((unhide O6).below (bel1 u6 _) (Nat.le_refl _)), hide ((unhide BW6).alloc (unhide BW6).size _)⟩
      | exact ⟨_, a6, c6', r6, rfl, rfl, rfl, rfl, (unhide BX6).lo, (unhide BX6).lt3 _ _ _, hide ((unhide BX6).put _ _ _), hide ((unhide BX6).ours (unhide O6) (unhide NE6) _ _ _), hide ((unhide BX6).bel (unhide BW6) _ _ _)⟩
  case rest =>
  obtain ⟨g4, a4, c4, r4, rfl, rfl, rfl, rfl, hg4, hg4b, Wc, Pc, BC⟩ := hcut
  obtain ⟨v8, hname⟩ : ∃ v, v = wc := ⟨_, rfl⟩
  subst hname
  have Av8 := hide ((unhide Aw3).below (unhide BC) (by omega))
  have Cv8 := hide ((unhide Cw3).below (unhide BC) (by omega))
  have Bv8 := hide ((unhide Bw3).trans ((unhide BC).mono (unhide Bw3).size))
  have zv8 : w3.heap.size ≤ v8.heap.size := (unhide BC).size
  have Wv8 : Hid _ := Wc
  have Pv8 : Hid _ := Pc
  have L4 := hide (unhide Pc).lt
  clear BC Wc Pc Aw3 Cw3 Bw3
  obtain ⟨aq0, aq1, aq2⟩ := unhide Av8
  go_wp2_with fail
  refine (toStore_any lim nx a cap its _ ((unhide HC).below (unhide Bv8) (Nat.le_refl _)) hlen).mono ?_
  rintro e w5 ⟨b5, rfl, hb5, hrow, hb⟩
  have Rw5 := hide hrow
  have y5 := hrow.lt
  clear hrow
  have Aw5 := hide ((unhide Av8).below hb (by omega))
  have Cw5 := hide ((unhide Cv8).below hb (by omega))
  have Ww5 := hide ((unhide Wv8).below hb (by omega))
  have Pw5 := hide ((unhide Pv8).below hb (Nat.le_refl _))
  have Bw5 := hide ((unhide Bv8).trans (hb.mono (unhide Bv8).size))
  have zw5 : v8.heap.size ≤ w5.heap.size := hb.size
  clear hb
  clear Av8 Cv8 Wv8 Pv8 Bv8
  clear aq0 aq1 aq2
  obtain ⟨cq0, cq1, cq2, cq3, cq4, cq5, cq6⟩ := unhide Cw5
  have q5 : w.heap.size + 1 < w5.heap.size := by omega
  go_wp2_with fail
  clear cq0 cq1 cq2 cq3 cq4 cq5 cq6
  have AS5 := hide ((unhide Aw5).below (bel1 w5 (.cells #[.int .i64 lim, .int .i64 nx, .slice (some ⟨b5, 0, none⟩) its.length its.length] 32)) (by omega))
  have CS5 := hide ((unhide Cw5).below (bel1 w5 (.cells #[.int .i64 lim, .int .i64 nx, .slice (some ⟨b5, 0, none⟩) its.length its.length] 32)) (by omega))
  have WS5 := hide ((unhide Ww5).below (bel1 w5 (.cells #[.int .i64 lim, .int .i64 nx, .slice (some ⟨b5, 0, none⟩) its.length its.length] 32)) (by omega))
  have PS5 := hide ((unhide Pw5).below (bel1 w5 (.cells #[.int .i64 lim, .int .i64 nx, .slice (some ⟨b5, 0, none⟩) its.length its.length] 32)) (Nat.le_refl _))
  have RS5 := hide ((unhide Rw5).of_block ((bel1 w5 (.cells #[.int .i64 lim, .int .i64 nx, .slice (some ⟨b5, 0, none⟩) its.length its.length] 32)).block _ (unhide Rw5).lt))
  have XS5 := hide (box3 w5 32 (.int .i64 lim) (.int .i64 nx) (.slice (some ⟨b5, 0, none⟩) its.length its.length))
  have BS5 := hide ((unhide Bw5).alloc (unhide Bw5).size (.cells #[.int .i64 lim, .int .i64 nx, .slice (some ⟨b5, 0, none⟩) its.length its.length] 32))
  have zS5 : w5.heap.size < (w5.alloc (.cells #[.int .i64 lim, .int .i64 nx, .slice (some ⟨b5, 0, none⟩) its.length its.length] 32)).heap.size := by simp
  generalize w5.alloc (.cells #[.int .i64 lim, .int .i64 nx, .slice (some ⟨b5, 0, none⟩) its.length its.length] 32) = S5 at AS5 CS5 WS5 PS5 RS5 XS5 BS5 zS5 ⊢
  clear Aw5 Cw5 Ww5 Pw5 Rw5 Bw5
  refine (CmdC.to_any nm ka kcap ks f x n dt q _ ((unhide HCK).below (unhide BS5) (Nat.le_refl _)) hlenk).mono ?_
  rintro e w6 ⟨b6, rfl, hb6, hrow, hb⟩
  have Kw6 := hide hrow
  have y6 := hrow.lt
  clear hrow
  have Aw6 := hide ((unhide AS5).below hb (by omega))
  have Cw6 := hide ((unhide CS5).below hb (by omega))
  have Ww6 := hide ((unhide WS5).below hb (by omega))
  have Pw6 := hide ((unhide PS5).below hb (Nat.le_refl _))
  have Rw6 := hide ((unhide RS5).of_block (hb.block _ (unhide RS5).lt))
  have Xw6 := hide ((unhide XS5).below hb (by omega))
  have Bw6 := hide ((unhide BS5).trans (hb.mono (unhide BS5).size))
  have zw6 : S5.heap.size ≤ w6.heap.size := hb.size
  clear hb
  clear AS5 CS5 WS5 PS5 RS5 XS5 BS5
  obtain ⟨xq0, xq1, xq2⟩ := unhide Xw6
  have q6 : w5.heap.size < w6.heap.size := by omega
  go_wp2_with fail
  clear xq0 xq1 xq2
  have AS6 := hide ((unhide Aw6).below (bel1 w6 (.cells #[.string nm, .slice (some ⟨b6, 0, none⟩) ks.length ks.length, .int .i64 f, .int .i64 x, .int .i64 n, .string dt, .bool q] 36)) (by omega))
  have CS6 := hide ((unhide Cw6).below (bel1 w6 (.cells #[.string nm, .slice (some ⟨b6, 0, none⟩) ks.length ks.length, .int .i64 f, .int .i64 x, .int .i64 n, .string dt, .bool q] 36)) (by omega))
  have WS6 := hide ((unhide Ww6).below (bel1 w6 (.cells #[.string nm, .slice (some ⟨b6, 0, none⟩) ks.length ks.length, .int .i64 f, .int .i64 x, .int .i64 n, .string dt, .bool q] 36)) (by omega))
  have PS6 := hide ((unhide Pw6).below (bel1 w6 (.cells #[.string nm, .slice (some ⟨b6, 0, none⟩) ks.length ks.length, .int .i64 f, .int .i64 x, .int .i64 n, .string dt, .bool q] 36)) (Nat.le_refl _))
  have RS6 := hide ((unhide Rw6).of_block ((bel1 w6 (.cells #[.string nm, .slice (some ⟨b6, 0, none⟩) ks.length ks.length, .int .i64 f, .int .i64 x, .int .i64 n, .string dt, .bool q] 36)).block _ (unhide Rw6).lt))
  have XS6 := hide ((unhide Xw6).below (bel1 w6 (.cells #[.string nm, .slice (some ⟨b6, 0, none⟩) ks.length ks.length, .int .i64 f, .int .i64 x, .int .i64 n, .string dt, .bool q] 36)) (by omega))
  have KS6 := hide ((unhide Kw6).of_block ((bel1 w6 (.cells #[.string nm, .slice (some ⟨b6, 0, none⟩) ks.length ks.length, .int .i64 f, .int .i64 x, .int .i64 n, .string dt, .bool q] 36)).block _ (unhide Kw6).lt))
  have DS6 := hide (box7 w6 36 (.string nm) (.slice (some ⟨b6, 0, none⟩) ks.length ks.length) (.int .i64 f) (.int .i64 x) (.int .i64 n) (.string dt) (.bool q))
  have BS6 := hide ((unhide Bw6).alloc (unhide Bw6).size (.cells #[.string nm, .slice (some ⟨b6, 0, none⟩) ks.length ks.length, .int .i64 f, .int .i64 x, .int .i64 n, .string dt, .bool q] 36))
  have zS6 : w6.heap.size < (w6.alloc (.cells #[.string nm, .slice (some ⟨b6, 0, none⟩) ks.length ks.length, .int .i64 f, .int .i64 x, .int .i64 n, .string dt, .bool q] 36)).heap.size := by simp
  generalize w6.alloc (.cells #[.string nm, .slice (some ⟨b6, 0, none⟩) ks.length ks.length, .int .i64 f, .int .i64 x, .int .i64 n, .string dt, .bool q] 36) = S6 at AS6 CS6 WS6 PS6 RS6 XS6 KS6 DS6 BS6 zS6 ⊢
  clear Aw6 Cw6 Ww6 Pw6 Rw6 Xw6 Kw6 Bw6
  refine (unhide HIM b5 b6 _ (unhide RS6).lt (at_row (unhide RS6)) (unhide KS6).lt (Strs.at_row (unhide KS6)) ((unhide HV).below (unhide BS6))).mono ?_
  rintro e w7 ⟨a7, c7, r7, rfl, ho, hr, hb⟩
  have Ow7 := hide ho
  have L7 : Hid (∀ g, r7 = some g → S6.heap.size ≤ g ∧ g < w7.heap.size) := fun g h => ⟨hr g h, ho.lt g h⟩
  clear ho hr
  have Aw7 := hide ((unhide AS6).below hb (by omega))
  have Cw7 := hide ((unhide CS6).below hb (by omega))
  have Ww7 := hide ((unhide WS6).below hb (by omega))
  have Pw7 := hide ((unhide PS6).below hb (Nat.le_refl _))
  have Rw7 := hide ((unhide RS6).of_block (hb.block _ (unhide RS6).lt))
  have Xw7 := hide ((unhide XS6).below hb (by omega))
  have Kw7 := hide ((unhide KS6).of_block (hb.block _ (unhide KS6).lt))
  have Dw7 := hide ((unhide DS6).below hb (by omega))
  have Bw7 := hide ((unhide BS6).trans (hb.mono (unhide BS6).size))
  have zw7 : S6.heap.size ≤ w7.heap.size := hb.size
  clear hb
  clear AS6 CS6 WS6 PS6 RS6 XS6 KS6 DS6 BS6
  obtain ⟨wq0, wq1, wq2⟩ := unhide Ww7
  have q7 : g4 < w7.heap.size := by omega
  go_wp2_with fail
  clear wq0 wq1 wq2
  have AS7 := hide ((unhide Aw7).below (bel1 w7 (.cells #[.int .i64 tl, .int .i64 tn, .slice a7 ti.length c7] 32)) (by omega))
  have CS7 := hide ((unhide Cw7).below (bel1 w7 (.cells #[.int .i64 tl, .int .i64 tn, .slice a7 ti.length c7] 32)) (by omega))
  have WS7 := hide ((unhide Ww7).below (bel1 w7 (.cells #[.int .i64 tl, .int .i64 tn, .slice a7 ti.length c7] 32)) (by omega))
  have PS7 := hide ((unhide Pw7).below (bel1 w7 (.cells #[.int .i64 tl, .int .i64 tn, .slice a7 ti.length c7] 32)) (Nat.le_refl _))
  have RS7 := hide ((unhide Rw7).of_block ((bel1 w7 (.cells #[.int .i64 tl, .int .i64 tn, .slice a7 ti.length c7] 32)).block _ (unhide Rw7).lt))
  have XS7 := hide ((unhide Xw7).below (bel1 w7 (.cells #[.int .i64 tl, .int .i64 tn, .slice a7 ti.length c7] 32)) (by omega))
  have KS7 := hide ((unhide Kw7).of_block ((bel1 w7 (.cells #[.int .i64 tl, .int .i64 tn, .slice a7 ti.length c7] 32)).block _ (unhide Kw7).lt))
  have DS7 := hide ((unhide Dw7).below (bel1 w7 (.cells #[.int .i64 tl, .int .i64 tn, .slice a7 ti.length c7] 32)) (by omega))
  have OS7 := hide ((unhide Ow7).below (bel1 w7 (.cells #[.int .i64 tl, .int .i64 tn, .slice a7 ti.length c7] 32)) (Nat.le_refl _))
  have GS7 := hide (box3 w7 32 (.int .i64 tl) (.int .i64 tn) (.slice a7 ti.length c7))
  have BS7 := hide ((unhide Bw7).alloc (unhide Bw7).size (.cells #[.int .i64 tl, .int .i64 tn, .slice a7 ti.length c7] 32))
  have zS7 : w7.heap.size < (w7.alloc (.cells #[.int .i64 tl, .int .i64 tn, .slice a7 ti.length c7] 32)).heap.size := by simp
  generalize w7.alloc (.cells #[.int .i64 tl, .int .i64 tn, .slice a7 ti.length c7] 32) = S7 at AS7 CS7 WS7 PS7 RS7 XS7 KS7 DS7 OS7 GS7 BS7 zS7 ⊢
  clear Aw7 Cw7 Ww7 Pw7 Rw7 Xw7 Kw7 Dw7 Ow7 Bw7
  refine (eqStore_same tl tn a7 a4 c7 c4 ti _ (unhide OS7).at (unhide PS7).at (by unfold maxLen; omega)).mono ?_
  rintro e w8 ⟨rfl, hb⟩
  have Aw8 := hide ((unhide AS7).below hb (by omega))
  have Cw8 := hide ((unhide CS7).below hb (by omega))
  have Ww8 := hide ((unhide WS7).below hb (by omega))
  have Pw8 := hide ((unhide PS7).below hb (Nat.le_refl _))
  have Rw8 := hide ((unhide RS7).of_block (hb.block _ (unhide RS7).lt))
  have Xw8 := hide ((unhide XS7).below hb (by omega))
  have Kw8 := hide ((unhide KS7).of_block (hb.block _ (unhide KS7).lt))
  have Dw8 := hide ((unhide DS7).below hb (by omega))
  have Ow8 := hide ((unhide OS7).below hb (Nat.le_refl _))
  have Gw8 := hide ((unhide GS7).below hb (by omega))
  have Bw8 := hide ((unhide BS7).trans (hb.mono (unhide BS7).size))
  have zw8 : S7.heap.size ≤ w8.heap.size := hb.size
  clear hb
  clear AS7 CS7 WS7 PS7 RS7 XS7 KS7 DS7 OS7 GS7 BS7
  go_upto_region 14 with fail
  go_cut [82] (fun s0 wx => s0 = .bool false ∧ Hid (Below w8.heap.size w8 wx))
  case first =>
    obtain ⟨x0, x1, x2⟩ := unhide Aw8
    obtain ⟨y0, y1, y2⟩ := unhide Xw8
    have HS0 : Hid (ItemsAt w8.drew a its) := (unhide HC).below (unhide Bw8).drew (Nat.le_refl _)
    have HS6 : Hid (ItemsAt w8.drew (some ⟨b5, 0, none⟩) its) := ItemsAt.row (unhide Rw8).drew
    have q0 : w5.heap.size < w8.heap.size := by omega
    go_region_with (first | (go_at_call 7; (refine (toStore_any lim nx a cap its _ (unhide HS0) hlen).mono ?_; rintro e u8 ⟨b8, rfl, -, hrow8, hbel8⟩; have hX8 := fun o => hbel8.cell (p := ⟨w5.heap.size, o, none⟩) q0; have ROW8 := hide hrow8; have BEL8 := hide hbel8; clear hrow8 hbel8)) | (go_at_call 10; (refine (eqStore_same lim nx (some ⟨b5, 0, none⟩) (some ⟨b8, 0, none⟩) its.length its.length its _ ((unhide HS6).below (unhide BEL8) (Nat.le_refl _)) (ItemsAt.row (unhide ROW8)) (unhide HLM)).mono ?_; rintro e u9 ⟨rfl, hbel9⟩; have BEL9 := hide ((unhide BEL8).trans (hbel9.mono (unhide BEL8).size)); clear hbel9)))
    all_goals
      go_wp2_with fail
      go_meet
      exact ⟨rfl, hide ((Below.refl w8.heap.size w8).drew.trans (unhide BEL9))⟩
  case rest =>
  obtain ⟨rfl, BC⟩ := hcut
  obtain ⟨v14, hname⟩ : ∃ v, v = wc := ⟨_, rfl⟩
  subst hname
  have Av14 := hide ((unhide Aw8).below (unhide BC) (by omega))
  have Cv14 := hide ((unhide Cw8).below (unhide BC) (by omega))
  have Wv14 := hide ((unhide Ww8).below (unhide BC) (by omega))
  have Pv14 := hide ((unhide Pw8).below (unhide BC) (Nat.le_refl _))
  have Rv14 := hide ((unhide Rw8).of_block ((unhide BC).block _ (unhide Rw8).lt))
  have Xv14 := hide ((unhide Xw8).below (unhide BC) (by omega))
  have Kv14 := hide ((unhide Kw8).of_block ((unhide BC).block _ (unhide Kw8).lt))
  have Dv14 := hide ((unhide Dw8).below (unhide BC) (by omega))
  have Ov14 := hide ((unhide Ow8).below (unhide BC) (Nat.le_refl _))
  have Gv14 := hide ((unhide Gw8).below (unhide BC) (by omega))
  have Bv14 := hide ((unhide Bw8).trans ((unhide BC).mono (unhide Bw8).size))
  have zv14 : w8.heap.size ≤ v14.heap.size := (unhide BC).size
  clear BC
  clear Aw8 Cw8 Ww8 Pw8 Rw8 Xw8 Kw8 Dw8 Ow8 Gw8 Bw8
  go_upto_region 16 with fail
  go_cut [87] (fun s0 wx => s0 = .bool false ∧ Hid (Below v14.heap.size v14 wx))
  case first =>
    obtain ⟨x0, x1, x2, x3, x4, x5, x6⟩ := unhide Cv14
    obtain ⟨y0, y1, y2, y3, y4, y5, y6⟩ := unhide Dv14
    have HS0 : Hid (StrsAt v14.drew ka ks) := (unhide HCK).below (unhide Bv14).drew (Nat.le_refl _)
    have HS6 : Hid (StrsAt v14.drew (some ⟨b6, 0, none⟩) ks) := StrsAt.row (unhide Kv14).drew
    have q0 : w6.heap.size < v14.heap.size := by omega
    go_region_with (first | (go_at_call 8; (refine (CmdC.to_any nm ka kcap ks f x n dt q _ (unhide HS0) hlenk).mono ?_; rintro e u8 ⟨b8, rfl, -, hrow8, hbel8⟩; have hX8 := fun o => hbel8.cell (p := ⟨w6.heap.size, o, none⟩) q0; have ROW8 := hide hrow8; have BEL8 := hide hbel8; clear hrow8 hbel8)) | (go_at_call 11; (refine (CmdC.eq_same nm (some ⟨b6, 0, none⟩) (some ⟨b8, 0, none⟩) ks.length ks.length ks f x n dt q _ ((unhide HS6).below (unhide BEL8) (Nat.le_refl _)) (StrsAt.row (unhide ROW8)) (unhide HKM)).mono ?_; rintro e u9 ⟨rfl, hbel9⟩; have BEL9 := hide ((unhide BEL8).trans (hbel9.mono (unhide BEL8).size)); clear hbel9)))
    all_goals
      go_wp2_with fail
      go_meet
      exact ⟨rfl, hide ((Below.refl v14.heap.size v14).drew.trans (unhide BEL9))⟩
  case rest =>
  obtain ⟨rfl, BC⟩ := hcut
  obtain ⟨v16, hname⟩ : ∃ v, v = wc := ⟨_, rfl⟩
  subst hname
  have Av16 := hide ((unhide Av14).below (unhide BC) (by omega))
  have Cv16 := hide ((unhide Cv14).below (unhide BC) (by omega))
  have Wv16 := hide ((unhide Wv14).below (unhide BC) (by omega))
  have Pv16 := hide ((unhide Pv14).below (unhide BC) (Nat.le_refl _))
  have Rv16 := hide ((unhide Rv14).of_block ((unhide BC).block _ (unhide Rv14).lt))
  have Xv16 := hide ((unhide Xv14).below (unhide BC) (by omega))
  have Kv16 := hide ((unhide Kv14).of_block ((unhide BC).block _ (unhide Kv14).lt))
  have Dv16 := hide ((unhide Dv14).below (unhide BC) (by omega))
  have Ov16 := hide ((unhide Ov14).below (unhide BC) (Nat.le_refl _))
  have Gv16 := hide ((unhide Gv14).below (unhide BC) (by omega))
  have Bv16 := hide ((unhide Bv14).trans ((unhide BC).mono (unhide Bv14).size))
  have zv16 : v14.heap.size ≤ v16.heap.size := (unhide BC).size
  clear BC
  clear Av14 Cv14 Wv14 Pv14 Rv14 Xv14 Kv14 Dv14 Ov14 Gv14 Bv14
  obtain ⟨xq0, xq1, xq2⟩ := unhide Xv16
  go_wp2_with fail
  refine (store_mark lim nx (some ⟨b5, 0, none⟩) its.length its.length (icell its) (some b5) 1 _ (Ours.row (unhide Rv16)) (by omega) (by omega) (by omega)).mono ?_
  rintro e w9 ⟨rfl, _, hg⟩
  have Aw9 := hide ((unhide Av16).gb hg (by omega) (fun e => by simp at e; omega))
  have Cw9 := hide ((unhide Cv16).gb hg (by omega) (fun e => by simp at e; omega))
  have Ww9 := hide ((unhide Wv16).gb hg (by omega) (fun e => by simp at e; omega))
  have Pw9 := hide ((unhide Pv16).gb hg (fun g h e => by have h4 := unhide L4 g h; simp at e; omega))
  have Kw9 := hide ((unhide Kv16).of_block (hg.block _ (unhide Kv16).lt (fun e => by simp at e; omega)))
  have Dw9 := hide ((unhide Dv16).gb hg (by omega) (fun e => by simp at e; omega))
  have Ow9 := hide ((unhide Ov16).gb hg (fun g h e => by have h4 := unhide L7 g h; simp at e; omega))
  have Gw9 := hide ((unhide Gv16).gb hg (by omega) (fun e => by simp at e; omega))
  have Bw9 := hide (below_gb (unhide Bv16) hg (by omega) (by omega))
  have zw9 : v16.heap.size ≤ w9.heap.size := hg.size
  clear hg
  clear Av16 Cv16 Wv16 Pv16 Kv16 Dv16 Ov16 Gv16 Bv16 Rv16 Xv16
  clear xq0 xq1 xq2
  obtain ⟨dq0, dq1, dq2, dq3, dq4, dq5, dq6⟩ := unhide Dw9
  go_wp2_with fail
  refine (CmdC.cmd_mark nm (some ⟨b6, 0, none⟩) ks.length ks.length f x n dt q _ (some b6) (1 + (its.length : Int) * 5) _ (StringsM.Ours.row (unhide Kw9)) (by omega) (by omega) (by omega)).mono ?_
  rintro e w10 ⟨rfl, hg⟩
  have Aw10 := hide ((unhide Aw9).gb hg (by omega) (fun e => by simp at e; omega))
  have Cw10 := hide ((unhide Cw9).gb hg (by omega) (fun e => by simp at e; omega))
  have Ww10 := hide ((unhide Ww9).gb hg (by omega) (fun e => by simp at e; omega))
  have Pw10 := hide ((unhide Pw9).gb hg (fun g h e => by have h4 := unhide L4 g h; simp at e; omega))
  have Ow10 := hide ((unhide Ow9).gb hg (fun g h e => by have h4 := unhide L7 g h; simp at e; omega))
  have Gw10 := hide ((unhide Gw9).gb hg (by omega) (fun e => by simp at e; omega))
  have Bw10 := hide (below_gb (unhide Bw9) hg (by omega) (by omega))
  have zw10 : w9.heap.size ≤ w10.heap.size := hg.size
  clear hg
  clear Aw9 Cw9 Ww9 Pw9 Ow9 Gw9 Bw9 Kw9 Dw9
  clear dq0 dq1 dq2 dq3 dq4 dq5 dq6
  have hk1 : ¬ 1 + (its.length : Int) * 5 + (ks.length : Int) < 0 := by omega
  obtain ⟨wq0, wq1, wq2⟩ := unhide Ww10
  obtain ⟨gq0, gq1, gq2⟩ := unhide Gw10
  go_wp2_with fail
  refine (eqStore_same tl tn a7 a4 c7 c4 ti _ (unhide Ow10).at (unhide Pw10).at (by unfold maxLen; omega)).mono ?_
  rintro e w11 ⟨rfl, hb⟩
  have Aw11 := hide ((unhide Aw10).below hb (by omega))
  have Cw11 := hide ((unhide Cw10).below hb (by omega))
  have Ww11 := hide ((unhide Ww10).below hb (by omega))
  have Pw11 := hide ((unhide Pw10).below hb (Nat.le_refl _))
  have Ow11 := hide ((unhide Ow10).below hb (Nat.le_refl _))
  have Gw11 := hide ((unhide Gw10).below hb (by omega))
  have Bw11 := hide ((unhide Bw10).trans (hb.mono (unhide Bw10).size))
  have zw11 : w10.heap.size ≤ w11.heap.size := hb.size
  clear hb
  clear Aw10 Cw10 Ww10 Pw10 Ow10 Gw10 Bw10
  clear wq0 wq1 wq2
  clear gq0 gq1 gq2
  obtain ⟨gq0, gq1, gq2⟩ := unhide Gw11
  go_wp2_with fail
  refine (store_mark tl tn a7 c7 ti.length (icell ti) r7 1 _ (unhide Ow11) (by omega) (by omega) (by omega)).mono ?_
  rintro e w12 ⟨rfl, hm, hg⟩
  have Mw12 := hide hm
  clear hm
  have Aw12 := hide ((unhide Aw11).gb hg (by omega) (fun e => by have h7 := unhide L7 _ e.symm; omega))
  have Cw12 := hide ((unhide Cw11).gb hg (by omega) (fun e => by have h7 := unhide L7 _ e.symm; omega))
  have Ww12 := hide ((unhide Ww11).gb hg (by omega) (fun e => by have h7 := unhide L7 _ e.symm; omega))
  have Pw12 := hide ((unhide Pw11).gb hg (fun g h e => by have h4 := unhide L4 g h; have h7 := unhide L7 g e.symm; omega))
  have Gw12 := hide ((unhide Gw11).gb hg (by omega) (fun e => by have h7 := unhide L7 _ e.symm; omega))
  have Bw12 := hide ((unhide Bw11).grown hg (unhide Bw11).size (fun k e => by have h7 := unhide L7 k e; omega))
  have zw12 : w11.heap.size ≤ w12.heap.size := hg.size
  clear hg
  clear Aw11 Cw11 Ww11 Pw11 Gw11 Bw11 Ow11
  clear gq0 gq1 gq2
  have hk2 : ¬ 1 + (ti.length : Int) * 5 < 0 := by omega
  obtain ⟨gq0, gq1, gq2⟩ := unhide Gw12
  go_wp2_with fail
  refine (store_held tl tn a7 c7 ti.length r7 1 _ (unhide Mw12) (by omega) (by omega) (by omega)).mono ?_
  rintro e w13 ⟨rfl, hb⟩
  have Aw13 := hide ((unhide Aw12).below hb (by omega))
  have Cw13 := hide ((unhide Cw12).below hb (by omega))
  have Ww13 := hide ((unhide Ww12).below hb (by omega))
  have Pw13 := hide ((unhide Pw12).below hb (Nat.le_refl _))
  have Gw13 := hide ((unhide Gw12).below hb (by omega))
  have Mw13 := hide ((unhide Mw12).below hb (Nat.le_refl _))
  have Bw13 := hide ((unhide Bw12).trans (hb.mono (unhide Bw12).size))
  have zw13 : w12.heap.size ≤ w13.heap.size := hb.size
  clear hb
  clear Aw12 Cw12 Ww12 Pw12 Gw12 Mw12 Bw12
  clear gq0 gq1 gq2
  go_upto_region 31 with fail
  go_cut [21, 22, 23, 24] (fun s0 s1 s2 s3 wx => ∃ (g4 : Nat) (a4 : Option Addr) (c4 : Nat) (r4 : Option Nat), s0 = .pointer (some ⟨g4, 0, none⟩) ∧ s1 = .string ta ∧ s2 = .int .i64 tm ∧ s3 = .bool tok ∧ w13.heap.size ≤ g4 ∧ g4 < wx.heap.size ∧ Hid (Box3 wx g4 (.int .i64 tl) (.int .i64 tn) (.slice a4 ti.length c4)) ∧ Hid (Ours wx a4 ti.length (icell ti) r4) ∧ Hid (Below w13.heap.size w13 wx))
  case first =>
    obtain ⟨x0, x1, x2⟩ := unhide Aw13
    obtain ⟨c0, c1, c2, c3, c4, c5, c6⟩ := unhide Cw13
    have HSX : Hid (∀ u, Below w13.heap.size w13 u → ItemsAt u a its) := fun u hu => (unhide HC).below ((unhide Bw13).trans (hu.mono (unhide Bw13).size)) (Nat.le_refl _)
    have HKX : Hid (∀ u, Below w13.heap.size w13 u → StrsAt u ka ks) := fun u hu => (unhide HCK).below ((unhide Bw13).trans (hu.mono (unhide Bw13).size)) (Nat.le_refl _)
    have HVX : Hid (∀ u, Below w13.heap.size w13 u → Shelf.VarsF u) := fun u hu => (unhide HV).below ((unhide Bw13).trans (hu.mono (unhide Bw13).size))
    have HSK : Hid (∀ u, Below w13.heap.size w13 u → (u.cell? ⟨w.heap.size, 0, none⟩ = some (.int .i64 lim) ∧ u.cell? ⟨w.heap.size, 1, none⟩ = some (.int .i64 nx) ∧ u.cell? ⟨w.heap.size, 2, none⟩ = some (.slice a its.length cap) ∧ u.cell? ⟨w.heap.size + 1, 0, none⟩ = some (.string nm) ∧ u.cell? ⟨w.heap.size + 1, 1, none⟩ = some (.slice ka ks.length kcap) ∧ u.cell? ⟨w.heap.size + 1, 2, none⟩ = some (.int .i64 f) ∧ u.cell? ⟨w.heap.size + 1, 3, none⟩ = some (.int .i64 x) ∧ u.cell? ⟨w.heap.size + 1, 4, none⟩ = some (.int .i64 n) ∧ u.cell? ⟨w.heap.size + 1, 5, none⟩ = some (.string dt) ∧ u.cell? ⟨w.heap.size + 1, 6, none⟩ = some (.bool q))) := fun u hu => by
      have hA := (unhide Aw13).below hu (by omega)
      have hC := (unhide Cw13).below hu (by omega)
      obtain ⟨y0, y1, y2⟩ := hA
      obtain ⟨y3, y4, y5, y6, y7, y8, y9⟩ := hC
      exact ⟨y0, y1, y2, y3, y4, y5, y6, y7, y8, y9⟩
    have BW0 : Hid (Below w13.heap.size w13 w13.drew) := (Below.refl _ _).drew
    have qc : w.heap.size + 1 < w13.heap.size := by omega
    have qa : w.heap.size < w13.heap.size := by omega
    go_region_held3 (fun u => u.cell? ⟨w.heap.size, 0, none⟩ = some (.int .i64 lim) ∧ u.cell? ⟨w.heap.size, 1, none⟩ = some (.int .i64 nx) ∧ u.cell? ⟨w.heap.size, 2, none⟩ = some (.slice a its.length cap) ∧ u.cell? ⟨w.heap.size + 1, 0, none⟩ = some (.string nm) ∧ u.cell? ⟨w.heap.size + 1, 1, none⟩ = some (.slice ka ks.length kcap) ∧ u.cell? ⟨w.heap.size + 1, 2, none⟩ = some (.int .i64 f) ∧ u.cell? ⟨w.heap.size + 1, 3, none⟩ = some (.int .i64 x) ∧ u.cell? ⟨w.heap.size + 1, 4, none⟩ = some (.int .i64 n) ∧ u.cell? ⟨w.heap.size + 1, 5, none⟩ = some (.string dt) ∧ u.cell? ⟨w.heap.size + 1, 6, none⟩ = some (.bool q)) (first | exact unhide HSK _ (unhide BW6) | exact unhide HSK _ ((unhide BW6).alloc (unhide BW6).size _) | exact unhide HSK _ (unhide BW5) | exact unhide HSK _ ((unhide BW5).alloc (unhide BW5).size _) | exact unhide HSK _ (unhide BW4) | exact unhide HSK _ ((unhide BW4).alloc (unhide BW4).size _) | exact unhide HSK _ (unhide BW0) | exact unhide HSK _ ((unhide BW0).alloc (unhide BW0).size _) | exact unhide HSK _ ((unhide BX6).bel (unhide BW6) _ _ _) | assumption) (first | (go_at_call 7; (refine (toStore_any lim nx a cap its _ (by first | exact unhide HSX _ (unhide BW0) | exact unhide HSX _ ((unhide BW0).alloc (unhide BW0).size _)) hlen).mono ?_; rintro e u4 ⟨b4, rfl, -, hrow4, hbel4⟩; (first | (have BW4 := hide ((unhide BW0).trans (hbel4.mono (unhide BW0).size)); (try (have BX4 := hide ((unhide BX0).below hbel4)))) | (have PB : Below w13.heap.size w13 _ := (unhide BW0).alloc (unhide BW0).size (.cells #[.int .i64 0, .int .i64 0, .slice none 0 0] 32); have BW4 := hide (PB.trans (hbel4.mono PB.size)); have BX4 : Hid (Bz w13 u4 w13.heap.size) := hide ((Bz.new 32 (unhide BW0)).below hbel4); clear PB)); have q4 : w.heap.size + 1 < u4.heap.size := Nat.lt_of_lt_of_le qc (unhide BW4).size; have ROW4 := hide hrow4; clear hrow4 hbel4)) | (go_at_call 8; (refine (CmdC.to_any nm ka kcap ks f x n dt q _ (by first | exact unhide HKX _ (unhide BW4) | exact unhide HKX _ ((unhide BW4).alloc (unhide BW4).size _)) hlenk).mono ?_; rintro e u5 ⟨b5, rfl, -, hrow5, hbel5⟩; (first | (have BW5 := hide ((unhide BW4).trans (hbel5.mono (unhide BW4).size)); (try (have BX5 := hide ((unhide BX4).below hbel5)))) | (have PB : Below w13.heap.size w13 _ := (unhide BW4).alloc (unhide BW4).size (.cells #[.int .i64 0, .int .i64 0, .slice none 0 0] 32); have BW5 := hide (PB.trans (hbel5.mono PB.size)); have BX5 := hide ((Bz.new 32 (unhide BW4)).below hbel5); clear PB)); have ROW5 := hide hrow5; have ROW45 : Hid (u5.rowIs b4 71 (its.length * 5) (icell its)) := (by first | exact (unhide ROW4).of_block (hbel5.block b4 (unhide ROW4).lt) | exact ((unhide ROW4).alloc _).of_block (hbel5.block b4 ((unhide ROW4).alloc _).lt)); clear hrow5 hbel5)) | (go_at_call 9; (refine (unhide HIM b4 b5 _ (by first | exact (unhide ROW45).lt | exact ((unhide ROW45).alloc _).lt) (by first | exact at_row (unhide ROW45) | exact at_row ((unhide ROW45).alloc _)) (by first | exact (unhide ROW5).lt | exact ((unhide ROW5).alloc _).lt) (by first | exact Strs.at_row (unhide ROW5) | exact Strs.at_row ((unhide ROW5).alloc _)) (unhide HVX _ (by first | exact unhide BW5 | exact (unhide BW5).alloc (unhide BW5).size _))).mono ?_; rintro e u6 ⟨a6, c6', r6, rfl, ho6, hr6, hb6⟩; (first | (have BW6 := hide ((unhide BW5).trans (hb6.mono (unhide BW5).size)); (try (have BX6 := hide ((unhide BX5).below hb6)); (try (have NE6 := hide ((unhide BX5).ne hr6))))) | (have PB : Below w13.heap.size w13 _ := (unhide BW5).alloc (unhide BW5).size (.cells #[.int .i64 0, .int .i64 0, .slice none 0 0] 32); have BW6 := hide (PB.trans (hb6.mono PB.size)); have BX6 := hide ((Bz.new 32 (unhide BW5)).below hb6); have NE6 := hide ((Bz.new 32 (unhide BW5)).ne hr6); clear PB)); have O6 := hide ho6; clear ho6 hr6 hb6; try (obtain ⟨-, -, ⟨k0, k1, k2⟩, kf⟩ := unhide BX6))))
    all_goals
      go_wp2_with fail
      go_meet
      first
      | exact ⟨u6.heap.size, a6, c6', r6, rfl, rfl, rfl, rfl, (unhide BW6).size, by simp, hide (box3 u6 _ _ _ _), hide ((unhide O6).below (bel1 u6 _) (Nat.le_refl _)), hide ((unhide BW6).alloc (unhide BW6).size _)⟩
      | exact ⟨_, a6, c6', r6, rfl, rfl, rfl, rfl, (unhide BX6).lo, (unhide BX6).lt3 _ _ _, hide ((unhide BX6).put _ _ _), hide ((unhide BX6).ours (unhide O6) (unhide NE6) _ _ _), hide ((unhide BX6).bel (unhide BW6) _ _ _)⟩
  case rest =>
  obtain ⟨g5, a9, c9, r9, rfl, rfl, rfl, rfl, hg5, hg5b, Wc, Qc, BC⟩ := hcut
  obtain ⟨v31, hname⟩ : ∃ v, v = wc := ⟨_, rfl⟩
  subst hname
  have Av31 := hide ((unhide Aw13).below (unhide BC) (by omega))
  have Cv31 := hide ((unhide Cw13).below (unhide BC) (by omega))
  have Wv31 := hide ((unhide Ww13).below (unhide BC) (by omega))
  have Pv31 := hide ((unhide Pw13).below (unhide BC) (Nat.le_refl _))
  have Gv31 := hide ((unhide Gw13).below (unhide BC) (by omega))
  have Mv31 := hide ((unhide Mw13).below (unhide BC) (Nat.le_refl _))
  have Bv31 := hide ((unhide Bw13).trans ((unhide BC).mono (unhide Bw13).size))
  have zv31 : w13.heap.size ≤ v31.heap.size := (unhide BC).size
  have Hv31 : Hid _ := Wc
  have Qv31 : Hid _ := Qc
  clear BC Wc Qc Aw13 Cw13 Ww13 Pw13 Gw13 Mw13 Bw13
  obtain ⟨hq0, hq1, hq2⟩ := unhide Hv31
  obtain ⟨wq0, wq1, wq2⟩ := unhide Wv31
  go_wp2_with fail
  refine (eqStore_same tl tn a9 a4 c9 c4 ti _ (unhide Qv31).at (unhide Pv31).at (by unfold maxLen; omega)).mono ?_
  rintro e w14 ⟨rfl, hb⟩
  have Aw14 := hide ((unhide Av31).below hb (by omega))
  have Cw14 := hide ((unhide Cv31).below hb (by omega))
  have Ww14 := hide ((unhide Wv31).below hb (by omega))
  have Pw14 := hide ((unhide Pv31).below hb (Nat.le_refl _))
  have Gw14 := hide ((unhide Gv31).below hb (by omega))
  have Mw14 := hide ((unhide Mv31).below hb (Nat.le_refl _))
  have Hw14 := hide ((unhide Hv31).below hb (by omega))
  have Qw14 := hide ((unhide Qv31).below hb (Nat.le_refl _))
  have Bw14 := hide ((unhide Bv31).trans (hb.mono (unhide Bv31).size))
  have zw14 : v31.heap.size ≤ w14.heap.size := hb.size
  clear hb
  clear Av31 Cv31 Wv31 Pv31 Gv31 Mv31 Hv31 Qv31 Bv31
  clear hq0 hq1 hq2
  clear wq0 wq1 wq2
  obtain ⟨gq0, gq1, gq2⟩ := unhide Gw14
  go_wp2_with fail
  refine (store_held tl tn a7 c7 ti.length r7 1 _ (unhide Mw14) (by omega) (by omega) (by omega)).mono ?_
  rintro e w15 ⟨rfl, hb⟩
  have Aw15 := hide ((unhide Aw14).below hb (by omega))
  have Cw15 := hide ((unhide Cw14).below hb (by omega))
  have Ww15 := hide ((unhide Ww14).below hb (by omega))
  have Pw15 := hide ((unhide Pw14).below hb (Nat.le_refl _))
  have Gw15 := hide ((unhide Gw14).below hb (by omega))
  have Mw15 := hide ((unhide Mw14).below hb (Nat.le_refl _))
  have Hw15 := hide ((unhide Hw14).below hb (by omega))
  have Qw15 := hide ((unhide Qw14).below hb (Nat.le_refl _))
  have Bw15 := hide ((unhide Bw14).trans (hb.mono (unhide Bw14).size))
  have zw15 : w14.heap.size ≤ w15.heap.size := hb.size
  clear hb
  clear Aw14 Cw14 Ww14 Pw14 Gw14 Mw14 Hw14 Qw14 Bw14
  clear gq0 gq1 gq2
  go_wp2
  go_ret
  exact ⟨rfl, unhide Bw15⟩
end DoStoreL
end Go.Proofs.YthlcmnjaimffdaaGreatDoor
