/-
  The program's goodKeys and the model's l3Keys at any slice of texts, also one that holds nothing.
-/
import Derived.Test.YtghckjmpcokhcaaGreatDoorKeysI
import Derived.Test.YtghckjmpcokhcaaGreatDoorKeyZ
import Derived.Test.YtghckjmpcokhcaaGreatDoorMergeI
import Derived.Test.YtghckjmpcokhcaaGreatDoorSplitX
import Derived.Test.YtghckjmpcokhcaaGreatDoorRingUZ
import Derived.Test.YtghckjmpcokhcaaGreatDoorNodesZ
namespace Go.Proofs.YtghckjmpcokhcaaGreatDoor
namespace Ring
open Go.RowKit Base KeysS
set_option linter.unusedVariables false

set_option maxRecDepth 10000 in
set_option maxHeartbeats 400000 in
theorem ikeys_nil (ka : Option Addr) (kc : Nat) (w : World) : Calls Tryz.prog 22 #[.slice ka 0 kc, .int .i64 0, .int .i64 60] w fun e w' => e = .returned (.bool true) ∧ Below w.heap.size w w' := by
  go_enter Tryz.func22, Tryz.ntmps22
  go_wp2_with fail
  go_loopw [21] (fun iv wr => iv = .int .i64 0 ∧ Hid (Below w.heap.size w wr)) (fun _ _ => 0)
  case atStart => exact ⟨rfl, hide (Below.refl _ _)⟩
  case round =>
    obtain ⟨rfl, hb⟩ := hrel
    go_wp2
    go_ret
    exact ⟨rfl, unhide hb⟩
set_option maxRecDepth 10000 in
set_option maxHeartbeats 400000 in
theorem skeys_nil (ka : Option Addr) (kc : Nat) (w : World) : Calls Tryz.prog 27 #[.slice ka 0 kc] w fun e w' => e = .returned (.bool true) ∧ Below w.heap.size w w' := by
  go_enter Tryz.func27, Tryz.ntmps27
  go_wp2_with fail
  go_loopw [7] (fun iv wr => iv = .int .i64 0 ∧ Hid (Below w.heap.size w wr)) (fun _ _ => 0)
  case atStart => exact ⟨rfl, hide (Below.refl _ _)⟩
  case round =>
    obtain ⟨rfl, hb⟩ := hrel
    go_wp2
    go_ret
    exact ⟨rfl, unhide hb⟩
theorem kB_nil : kB [] = true := by decide
theorem ikeys_opt (ka : Option Addr) (kc : Nat) (ks : List ByteArray) (w : World) (hck : StrsAt w ka ks) (hkl : ks.length ≤ maxLen) (hks : ∀ s ∈ ks, s.size ≤ maxLen) :
    Calls Tryz.prog 22 #[.slice ka ks.length kc, .int .i64 0, .int .i64 60] w fun e w' => e = .returned (.bool (kB ks)) ∧ Below w.heap.size w w' := by
  by_cases h0 : ks = []
  · subst h0
    rw [kB_nil]
    exact ikeys_nil ka kc w
  · obtain ⟨kb, ko, rfl, hkb, hkc⟩ := hck h0
    exact KeysI.keys_any kb ko kc ks 0 60 w hkb hkc hkl hks
theorem skeys_opt (ka : Option Addr) (kc : Nat) (ks : List ByteArray) (w : World) (hck : StrsAt w ka ks) (hkl : ks.length ≤ maxLen) (hks : ∀ s ∈ ks, s.size ≤ maxLen) :
    Calls Tryz.prog 27 #[.slice ka ks.length kc] w fun e w' => e = .returned (.bool (kB ks)) ∧ Below w.heap.size w w' := by
  by_cases h0 : ks = []
  · subst h0
    rw [kB_nil]
    exact skeys_nil ka kc w
  · obtain ⟨kb, ko, rfl, hkb, hkc⟩ := hck h0
    exact (mkeys_any kb ko kc ks w hkb hkc hkl hks).mono fun e w' h => ⟨h.1, by rw [h.2]; exact Below.refl _ _⟩
end Ring
end Go.Proofs.YtghckjmpcokhcaaGreatDoor
/-
  No keys at all: the program's ownersOf, SplitKeys and MergeAnswers, the model's SplitKeys.
-/
namespace Go.Proofs.YtghckjmpcokhcaaGreatDoor
namespace Merge
open Go.RowKit Base Items Split Marks KeysS Ring Parts Rd Vals OwnR
set_option linter.unusedVariables false

attribute [local go_sem] Oper.semAt_some

set_option maxRecDepth 10000 in
set_option maxHeartbeats 1000000 in
theorem owners_nil (b off cap : Nat) (l : List Nodes.D) (ka : Option Addr) (m kc : Nat) (hm : m ≤ 0) (w : World) (hb : b < w.heap.size) (hc : ∀ i, i < l.length → Nodes.At w b (off + i * 2) (l.getD i Nodes.zero)) (hg : NodesM.gnB l = true) (hv : Vars w) :
    Calls Tryz.prog 23 #[.slice (some ⟨b, off, none⟩) l.length cap, .slice ka m kc] w fun e w' =>
      ∃ g, e = .returned (.slice (some ⟨g, 0, none⟩) m m) ∧ w.heap.size ≤ g ∧ RowAt w' g 9 m (StringsW.scell []) ∧ Below w.heap.size w w' := by
  have HRING := hide (ringOf_some b off cap l w hb hc hg hv)
  clear hc hv
  go_enter Tryz.func23, Tryz.ntmps23
  go_wp2_with fail
  refine (unhide HRING).mono ?_
  rintro e w1 ⟨gr, cr, rfl, hgr, -, hb1⟩
  have B1 := hide hb1
  clear hb1
  have hmk := fun w => run_make_row' (P := Tryz.prog) 24 9 (.string ByteArray.empty) 16 Tryz.underlying24 (by kernel_rfl) rfl .i64 .i64 m (by omega) (by omega) w
  have RS0 : Hid (RowAt (w1.alloc (.cells (madeCells #[.string ByteArray.empty] m) 9)) w1.heap.size 9 m (StringsW.scell [])) := RowAt.of_row ((rowIs_mades w1 #[.string ByteArray.empty] m 9 (fun _ => .string ByteArray.empty) (fun i => by simp [Nat.mod_one])).congr (fun j hj => absurd hj (by omega)))
  have hz := (unhide B1).size
  have B2 := hide ((unhide B1).alloc hz (.cells (madeCells #[.string ByteArray.empty] m) 9))
  go_wp2_with fail
  clear hmk
  go_loopw [16] (fun iv wr => ∃ k : Nat, k ≤ m ∧ iv = .int .i64 (k : Int) ∧ Hid (RowAt wr w1.heap.size 9 m (StringsW.scell [])) ∧ Hid (Below w.heap.size w wr)) (fun iv _ => m - (intOf iv).toNat)
  case atStart => exact ⟨0, Nat.zero_le _, rfl, RS0, B2⟩
  case round =>
    obtain ⟨k, hk, rfl, hr, hb⟩ := hrel
    obtain rfl : k = m := by omega
    go_wp2
    go_ret
    exact ⟨_, rfl, hz, unhide hr, unhide hb⟩

/-- What the loop of SplitKeys holds where there is no key. -/
def NInv (w : World) (P : Nat) (pre : List Arg) (W : World) : Prop := Boxed W P 27 (.slice none 0 0) ∧ Below w.heap.size w W
theorem ninv_own (w : World) (B P : Nat) (hB : w.heap.size ≤ B) : OwnFrom B (NInv w P) := by
  rintro pre W W' r ⟨h1, hb⟩ hg hk
  exact ⟨boxed_gb h1 hg (fun k e => (hk k e).2), hb.grown hg hb.size (fun k e => by have := (hk k e).1; omega)⟩
theorem ninv_below {w : World} {P : Nat} {pre : List Arg} {A A' : World} (h : NInv w P pre A) (hb : Below A.heap.size A A') : NInv w P pre A' := by
  obtain ⟨h1, hbb⟩ := h
  have h1' : A.heap[P]? = some (.cells #[.slice none 0 0] 27) := h1
  exact ⟨(hb.block P (Array.getElem?_eq_some_iff.1 h1').1).trans h1', hbb.trans (hb.mono hbb.size)⟩

set_option maxRecDepth 100000 in
set_option maxHeartbeats 2000000 in
theorem split_nil (b off cap : Nat) (l : List Nodes.D) (ka : Option Addr) (kc : Nat) (w : World) (hb : b < w.heap.size) (hc : ∀ i, i < l.length → Nodes.At w b (off + i * 2) (l.getD i Nodes.zero)) (hl : l.length ≤ maxLen) (hs : ∀ x ∈ l, Nodes.Fits x) (hg : NodesM.gnB l = true) (hv : Vars w) :
    CallsIn Fence.wide 8 Tryz.prog 6 #[.slice (some ⟨b, off, none⟩) l.length cap, .slice ka 0 kc] w fun e w' => e = .returned (.tuple #[.slice none 0 0, .bool true]) ∧ Below w.heap.size w w' := by
  have HGN : Hid (∀ w1, Below w.heap.size w w1 → Calls Tryz.prog 21 #[.slice (some ⟨b, off, none⟩) l.length cap] w1 fun e w' => e = .returned (.bool true) ∧ Below w1.heap.size w1 w') := fun w1 hb1 => by
    have := NodesM.inodes_some b off cap l w1 (Nat.lt_of_lt_of_le hb hb1.size) (fun i hi => (hc i hi).below hb1 hb) hl hs
    rw [hg] at this; exact this
  have HGK := hide (ikeys_nil ka kc)
  have HOW := hide (fun w1 (hb1 : Below w.heap.size w w1) => owners_nil b off cap l ka 0 kc (Nat.le_refl _) w1 (Nat.lt_of_lt_of_le hb hb1.size) (fun i hi => (hc i hi).below hb1 hb) hg (hv.below hb1))
  clear hc hl hs hg hv
  refine callsIn_of_wp_marks Tryz.func6 rfl trivial ?_ rfl
  simp only [Tryz.ntmps6, List.size_toArray, List.length_cons, List.length_nil, Nat.reduceAdd, Nat.reduceSub, Array.replicate_succ, Array.replicate_zero, List.push_toArray, List.append_toArray, List.nil_append, List.cons_append]
  gi_wp2_with fail
  refine ⟨trivial, (callsIn_wide.2 (unhide HGN _ (bel1 w _))).mono ?_⟩
  rintro e w1 ⟨rfl, hb1⟩
  have B1 := hide (Below.trans (bel1 w _) (hb1.mono (by simp)))
  have cH : w1.cell? ⟨w.heap.size, 0, none⟩ = some (.slice ka 0 kc) := by
    rw [hb1.cell (by simp)]; rw [World.cell?_alloc_new]; rfl
  clear hb1
  gi_wp2_with fail
  refine ⟨trivial, (callsIn_wide.2 (unhide HGK _)).mono ?_⟩
  rintro e w2 ⟨rfl, hb2⟩
  have B2 := hide ((unhide B1).trans (hb2.mono (unhide B1).size))
  have cH2 := (hb2.cell (p := ⟨w.heap.size, 0, none⟩) (block_lt_of_cell cH)).trans cH
  have hH := block_lt_of_cell cH2
  clear hb2 cH
  gi_wp2_with fail
  have BP := Boxed.new w2 27 (.slice none 0 0)
  refine ⟨trivial, (callsIn_wide.2 (unhide HOW _ ((unhide B2).alloc (by omega) _))).mono ?_⟩
  rintro e w3 ⟨g, rfl, hg3, hr3, hb3⟩
  simp only [World.size_alloc] at hg3 hb3
  have B3 := hide (((unhide B2).alloc (by omega) _).trans (hb3.mono (by omega)))
  have BP3 : Boxed w3 w2.heap.size 27 (.slice none 0 0) := (hb3.block _ (by simp)).trans BP
  have hz3 := hb3.size
  have hgl := hr3.lt
  have R3 := hide hr3
  clear hb3 hr3 cH2 BP
  gi_wp2_with fail
  refine ⟨trivial, (callsIn_wide.2 (partsOf_out g 0 _)).mono ?_⟩
  rintro e w4 ⟨rfl, rfl⟩
  have hszO : (w3.alloc (.cells #[.slice (some ⟨g, 0, none⟩) 0 0] 24)).heap.size = w3.heap.size + 1 := World.size_alloc _ _
  obtain ⟨w5, hw5⟩ : ∃ w5, w5 = (w3.alloc (.cells #[.slice (some ⟨g, 0, none⟩) 0 0] 24)).alloc (.cells #[.slice (some ⟨g, 0, none⟩) 0 0] 24) := ⟨_, rfl⟩
  have BB : Boxed w5 (w3.heap.size + 1) 24 (.slice (some ⟨g, 0, none⟩) 0 0) := by rw [hw5]; have := Boxed.new (w3.alloc (.cells #[.slice (some ⟨g, 0, none⟩) 0 0] 24)) 24 (.slice (some ⟨g, 0, none⟩) 0 0); rwa [hszO] at this
  have b35 : Below w3.heap.size w3 w5 := by rw [hw5]; exact bel2 w3 _ _
  have BP5 : Boxed w5 w2.heap.size 27 (.slice none 0 0) := (b35.block _ (Array.getElem?_eq_some_iff.1 (show w3.heap[w2.heap.size]? = _ from BP3)).1).trans BP3
  have hz5 : w5.heap.size = w3.heap.size + 2 := by rw [hw5]; simp
  have hINV : NInv w w2.heap.size [] w5 := ⟨BP5, (unhide B3).trans (b35.mono (unhide B3).size)⟩
  have hBm : w.heap.size ≤ w5.heap.size := by have := (unhide B3).size; omega
  rw [← hw5]
  have hBB := hide BB
  have HINV := hide hINV
  have HR5 := hide ((unhide R3).below b35 hgl)
  clear BB b35 BP5 hw5 hINV hszO BP3 R3
  gi_wp2_with fail
  refine RoundR.range_own (by decide) (gf := 53) (lb := #[.pointer (some ⟨w3.heap.size + 1, 0, none⟩)]) rfl (enters_of Tryz.func53 (by kernel_rfl) rfl) (N := 0) (encs := encs [] 0) (fun _ => rfl)
    (NInv w w2.heap.size) (Mem [] 0) (fun xs => True) (Kp (w3.heap.size + 1) g) Kp.trans ?kb (ninv_own w _ _ hBm) (mem_own _ _ _) (fun pre A A' h hb => ninv_below h hb) ?iter (unhide HINV) ?round ?done
  case kb =>
    intro W l o o' hl ho hc
    exact ⟨by simp, World.putObj_heap_other (by omega), World.putObj_heap_other (by omega)⟩
  case iter =>
    intro l J W hJ hW hY h0
    exact (parts_iter _ l (w3.heap.size + 1) g 0 [] (by decide) (by omega) J W hJ hY (((hW.cell (p := ⟨w3.heap.size + 1, 0, none⟩) (by show w3.heap.size + 1 < _; omega))).trans (unhide hBB).cell) ((unhide HR5).below hW (unhide HR5).lt) h0).mono (fun e W' ⟨h1, xs, _, h2⟩ => ⟨h1, xs, trivial, h2⟩)
  case done =>
    intro D xs W hD hS hI hK
    obtain ⟨hBP, hbel⟩ := hI
    have c0 := hBP.cell
    have HB := hide hbel
    clear hbel hBP hS
    gi_wp2
    refine ⟨by simp, .inl ⟨_, _, rfl, run_takeDeferred hK, ?_⟩⟩
    exact ⟨_, results_tmp2 rfl _ _ _, rfl, (unhide HB).grown (grownBy_putObj' W D _) (unhide HB).size (fun k e => by cases e; omega)⟩
  case round =>
    intro l pre x W W2 hI hM hlen
    exact absurd hlen (by omega)

set_option maxRecDepth 10000 in
set_option maxHeartbeats 1000000 in
theorem l6Split_nil (b : Option Addr) (n cap : Nat) (ka : Option Addr) (kc : Nat) (w : World) : Calls Tryz.prog 28 #[.slice b n cap, .slice ka 0 kc] w fun e w' => e = .returned (.slice none 0 0) ∧ Below w.heap.size w w' := by
  go_enter Tryz.func28, Tryz.ntmps28
  go_wp2_with fail
  go_loopw [5, 14] (fun v iv wr => iv = .int .i64 0 ∧ v = .slice none 0 0 ∧ Hid (Below w.heap.size w wr)) (fun _ _ _ => 0)
  case atStart => exact ⟨rfl, rfl, hide (Below.refl _ _)⟩
  case round =>
    obtain ⟨rfl, rfl, hb⟩ := hrel
    go_wp2
    go_ret
    exact ⟨rfl, unhide hb⟩

set_option maxRecDepth 10000 in
set_option maxHeartbeats 2000000 in
/-- MergeAnswers of no keys and no answers. -/
theorem merge_nil (b off cap : Nat) (l : List Nodes.D) (ka : Option Addr) (m kc : Nat) (hm : m ≤ 0) (aa : Option Addr) (ac : Nat) (token : Bool) (w : World) (hb : b < w.heap.size) (hc : ∀ i, i < l.length → Nodes.At w b (off + i * 2) (l.getD i Nodes.zero)) (hl : l.length ≤ maxLen) (hs : ∀ x ∈ l, Nodes.Fits x) (hg : NodesM.gnB l = true) (hv : V2 w) :
    Calls Tryz.prog 11 #[.slice (some ⟨b, off, none⟩) l.length cap, .slice ka m kc, .slice aa 0 ac, .bool token] w fun e w' => e = .returned (.tuple #[.string (told token [] ++ lastS), .bool true]) ∧ Below w.heap.size w w' := by
  have hgn := NodesM.inodes_some b off cap l w hb hc hl hs
  rw [hg] at hgn
  have HG := hide hgn
  have HK : Hid (∀ w1, Calls Tryz.prog 22 #[.slice ka m kc, .int .i64 0, .int .i64 60] w1 fun e w' => e = .returned (.bool true) ∧ Below w1.heap.size w1 w') := fun w1 => by
    obtain rfl : m = 0 := by omega
    exact ikeys_nil ka kc w1
  have HOW := hide (fun w1 (hb1 : Below w.heap.size w w1) => owners_nil b off cap l ka m kc hm w1 (Nat.lt_of_lt_of_le hb hb1.size) (fun i hi => (hc i hi).below hb1 hb) hg (hv.vars.below hb1).tab)
  have HV := hide hv
  clear hgn hc hs hg hv
  go_enter Tryz.func11, Tryz.ntmps11
  go_wp2_with fail
  refine (unhide HG).mono ?_
  rintro e w1 ⟨rfl, hb1⟩
  have B1 := hide hb1
  clear hb1
  go_wp2_with fail
  refine (unhide HK _).mono ?_
  rintro e w2 ⟨rfl, hb2⟩
  have B2 := hide ((unhide B1).trans (hb2.mono (unhide B1).size))
  clear hb2
  go_wp2_with fail
  refine (unhide HOW _ (unhide B2)).mono ?_
  rintro e w3 ⟨g, rfl, hg3, hr3, hb3⟩
  have B3 := hide ((unhide B2).trans (hb3.mono (unhide B2).size))
  have R3 := hide hr3
  have hgl := hr3.lt
  clear hb3 hr3
  go_wp2_with fail
  refine (partsOf_out g m w3).mono ?_
  rintro e w4 ⟨rfl, rfl⟩
  have B4 := hide ((unhide B3).alloc (unhide B3).size (.cells #[.slice (some ⟨g, 0, none⟩) m m] 24))
  have c4 : (w3.alloc (.cells #[.slice (some ⟨g, 0, none⟩) m m] 24)).cell? ⟨w3.heap.size, 0, none⟩ = some (.slice (some ⟨g, 0, none⟩) m m) := by rw [World.cell?_alloc_new]; rfl
  have HCL := hide (collect_some w3.heap.size g m [] _ (by omega) c4 ((unhide R3).below (bel1 w3 _) hgl))
  clear c4
  go_wp2_with fail
  refine (unhide HCL).mono ?_
  rintro e w5 ⟨v5, xs, rfl, hxs, hown5, -, hb5⟩
  obtain ⟨va, vc, rfl⟩ := OwnR.own_form hown5
  have B5 := hide ((unhide B4).trans (hb5.mono (unhide B4).size))
  have hx0 : xs.length = 0 := by
    have := congrArg List.length hxs
    rw [List.length_map] at this
    rw [this]
    obtain rfl : m = 0 := by omega
    rfl
  rw [hx0]
  have hmk := fun w => run_make_row' (P := Tryz.prog) 79 33 (.slice none 0 0) 24 Tryz.underlying79 (by kernel_rfl) rfl .i64 .i64 m (by omega) (by omega) w
  have RS0 : Hid (RowAt (w5.alloc (.cells (madeCells #[.slice none 0 0] m) 33)) w5.heap.size 33 m (fun _ => .slice none 0 0)) := RowAt.of_row ((rowIs_mades w5 #[.slice none 0 0] m 33 (fun _ => .slice none 0 0) (fun i => by simp [Nat.mod_one])).congr (fun j _ => rfl))
  have BT := hide ((unhide B5).alloc (unhide B5).size (.cells (madeCells #[.slice none 0 0] m) 33))
  clear hown5 hb5 hxs HCL R3 hgl hg3 B1 B2 B3 B4 hx0
  go_wp2_with fail
  clear hmk
  go_loopw [39] (fun iv wr => iv = .int .i64 0 ∧ Hid (RowAt wr w5.heap.size 33 m (fun _ => .slice none 0 0)) ∧ Hid (Below w.heap.size w wr)) (fun _ _ => 0)
  case atStart => exact ⟨rfl, RS0, BT⟩
  case round =>
    obtain ⟨rfl, hrow, hbw⟩ := hrel
    have HCC := hide (concat_some w5.heap.size m m (fun _ => .slice none 0 0) (fun _ => none) wr (unhide hrow) (by omega) (fun k hk => absurd hk (by omega)))
    have hsf : sofar (fun _ => none) m = ([] : List Itm) := by
      obtain rfl : m = 0 := by omega
      rfl
    rw [hsf] at HCC
    clear hsf
    go_wp2_with fail
    refine (unhide HCC).mono ?_
    rintro e w6 ⟨v6, rfl, hown6, hb6⟩
    obtain ⟨a6, c6, rfl⟩ := OwnR.own_form hown6
    have B6 := hide ((unhide hbw).trans (hb6.mono (unhide hbw).size))
    have HVX := hide (Vals.impl_any a6 c6 [] token w6 (fun h => absurd rfl h) (by simp) (fun x hx => absurd hx (by simp)) ((unhide HV).vars.below (unhide B6)).tab)
    have hvt : vtR [] token = ⟨told token [] ++ lastS, true⟩ := vt_ok (by simp) rfl
    rw [hvt] at HVX
    clear hown6 hb6 hvt
    unfold vtW at HVX
    go_wp2_with fail
    refine (unhide HVX).mono ?_
    rintro e w7 ⟨rfl, hb7⟩
    have B7 := hide ((unhide B6).trans (hb7.mono (unhide B6).size))
    clear hb7
    go_wp2
    go_ret2
    exact ⟨rfl, unhide B7⟩
end Merge
end Go.Proofs.YtghckjmpcokhcaaGreatDoor
/-
  No nodes at all: both GoodNodes say no.
-/
namespace Go.Proofs.YtghckjmpcokhcaaGreatDoor
namespace Ring
open Go.RowKit Base
set_option linter.unusedVariables false

set_option maxRecDepth 10000 in
set_option maxHeartbeats 400000 in
theorem inodes_nil (b : Option Addr) (cb : Nat) (w : World) : Calls Tryz.prog 21 #[.slice b 0 cb] w fun e w' => e = .returned (.bool false) ∧ Below w.heap.size w w' := by
  go_enter Tryz.func21, Tryz.ntmps21
  go_wp2
  go_ret
  exact ⟨rfl, Below.refl _ _⟩
set_option maxRecDepth 10000 in
set_option maxHeartbeats 400000 in
theorem snodes_nil (b : Option Addr) (cb : Nat) (w : World) : Calls Tryz.prog 26 #[.slice b 0 cb] w fun e w' => e = .returned (.bool false) ∧ Below w.heap.size w w' := by
  go_enter Tryz.func26, Tryz.ntmps26
  go_wp2_with fail
  go_loopw [7] (fun iv wr => iv = .int .i64 0 ∧ Hid (Below w.heap.size w wr)) (fun _ _ => 0)
  case atStart => exact ⟨rfl, hide (Below.refl _ _)⟩
  case round =>
    obtain ⟨rfl, hb⟩ := hrel
    go_wp2
    go_ret
    exact ⟨rfl, unhide hb⟩
end Ring
end Go.Proofs.YtghckjmpcokhcaaGreatDoor
