/-
  A place that loses all its items, plainly; stores into a cluster's box. No Go function is spoken of here.
-/
import Derived.Test.YtkodgbalhnbhcaaGreatDoorZ19
import Derived.Test.YtkodgbalhnbhcaaGreatDoorClusS
import Derived.Test.YtkodgbalhnbhcaaGreatDoorZ17
import Derived.Test.YtkodgbalhnbhcaaGreatDoorZ8
import Derived.Lib.BufferWrite
import Derived.Lib.UnsafeStr
import Derived.Laws.CopyOwn
namespace Go.Proofs.YtkodgbalhnbhcaaGreatDoor
namespace Clus
open Go.RowKit Base OwnR Plc
set_option linter.unusedVariables false

/-- Which place has a name, plainly. -/
def atC (ps : List Pls.Core) (nm : ByteArray) : Option Nat := ps.findIdx? (fun x => x.name.toList == nm.toList)
theorem plN_core (L : List Pls.Pl) (nm : ByteArray) : plN L nm = atC (L.map Pls.core) nm := by
  unfold plN atC
  rw [List.findIdx?_map]
  rfl
def crashC (x : Pls.Core) : Pls.Core := ⟨x.name, x.lim, x.nx, []⟩
def crR (c : CC) (nm : ByteArray) : CC × Int × Bool :=
  if gcB c = true then match atC c.ps nm with
    | some k => (⟨c.now, c.nx, c.lim, c.lost, c.ns, c.cs, c.ps.set k (crashC (c.ps.getD k Pls.zeroC))⟩, (c.ps.getD k Pls.zeroC).its.length, true)
    | none => (noCC, 0, false)
  else (noCC, 0, false)
theorem crR_bad {c : CC} {nm : ByteArray} (h : gcB c = false) : crR c nm = (noCC, 0, false) := by simp [crR, h]
theorem crR_none {c : CC} {nm : ByteArray} (h : atC c.ps nm = none) : crR c nm = (noCC, 0, false) := by unfold crR; rw [h]; split <;> rfl
theorem crR_some {c : CC} {nm : ByteArray} {k : Nat} (hg : gcB c = true) (h : atC c.ps nm = some k) : crR c nm = ((⟨c.now, c.nx, c.lim, c.lost, c.ns, c.cs, c.ps.set k (crashC (c.ps.getD k Pls.zeroC))⟩ : CC), ((c.ps.getD k Pls.zeroC).its.length : Int), true) := by unfold crR; rw [if_pos hg, h]
/-- How CrashNode ends. -/
def CrashEnd (R : CC × Int × Bool) (w : World) (e : Ending) (w' : World) : Prop :=
  ∃ c : Cl, e = .returned (.tuple #[clV c, .int .i64 R.2.1, .bool R.2.2]) ∧ plain c = R.1 ∧ CO w' w.heap.size c ∧ Below w.heap.size w w'
theorem crash_no {R : CC × Int × Bool} {w w' : World} (h : R = (noCC, 0, false)) (hb : Below w.heap.size w w') : CrashEnd R w (.returned (.tuple #[.agg #[.int .i64 0, .int .i64 0, .int .i64 0, .int .i64 0, .slice none 0 0, .slice none 0 0, .slice none 0 0], .int .i64 0, .bool false])) w' := by
  subst h
  exact ⟨noCl, rfl, rfl, CO.no w' _, hb⟩
theorem crash_yes {R : CC × Int × Bool} {w w' : World} {c : Cl} {k : Nat} {n : Int} (h : R = (plain (crashCl c k), n, true)) (ho : CO w' w.heap.size (crashCl c k)) (hb : Below w.heap.size w w') : CrashEnd R w (.returned (.tuple #[clV c, .int .i64 n, .bool true])) w' := by
  subst h
  exact ⟨crashCl c k, by rw [crashV], rfl, ho, hb⟩
theorem CB.set0 {w : World} {X : Nat} {now nx lim lost : Int} {v4 v5 v6 : Value} (h : CB w X now nx lim lost v4 v5 v6) (v : Int) : CB (w.setCell ⟨X, 0, none⟩ (.int .i64 v)) X v nx lim lost v4 v5 v6 := by
  have h' : w.heap[X]? = _ := h
  unfold CB; simp [World.setCell, Array.getElem?_modify, h']
theorem CB.set1 {w : World} {X : Nat} {now nx lim lost : Int} {v4 v5 v6 : Value} (h : CB w X now nx lim lost v4 v5 v6) (v : Int) : CB (w.setCell ⟨X, 1, none⟩ (.int .i64 v)) X now v lim lost v4 v5 v6 := by
  have h' : w.heap[X]? = _ := h
  unfold CB; simp [World.setCell, Array.getElem?_modify, h']
theorem CB.set2 {w : World} {X : Nat} {now nx lim lost : Int} {v4 v5 v6 : Value} (h : CB w X now nx lim lost v4 v5 v6) (v : Int) : CB (w.setCell ⟨X, 2, none⟩ (.int .i64 v)) X now nx v lost v4 v5 v6 := by
  have h' : w.heap[X]? = _ := h
  unfold CB; simp [World.setCell, Array.getElem?_modify, h']
theorem CB.set3 {w : World} {X : Nat} {now nx lim lost : Int} {v4 v5 v6 : Value} (h : CB w X now nx lim lost v4 v5 v6) (v : Int) : CB (w.setCell ⟨X, 3, none⟩ (.int .i64 v)) X now nx lim v v4 v5 v6 := by
  have h' : w.heap[X]? = _ := h
  unfold CB; simp [World.setCell, Array.getElem?_modify, h']

theorem gc_nodes {C : CC} (h : gcB C = true) : C.ns.length ≤ 8 ∧ C.cs.length ≤ 8 := by
  rw [gc_eq, Bool.and_eq_true, Bool.and_eq_true] at h
  obtain ⟨_, _, _, _, g5, g6⟩ := (head_iff C).1 h.1.1
  refine ⟨(Ring.good_len g5).2, ?_⟩
  rcases g6 with g6 | g6
  · rw [g6]; simp
  · exact (Ring.good_len g6).2
theorem plI_core {L M : List Pls.Pl} {nm : ByteArray} (h : M.map Pls.core = L.map Pls.core) : plN M nm = plN L nm := by rw [plN_core, plN_core, h]
theorem crash_core {L M : List Pls.Pl} {k : Nat} (h : M.map Pls.core = L.map Pls.core) (hk : k < M.length) : (M.set k (crash (M.getD k Pls.zeroL))).map Pls.core = (L.map Pls.core).set k (crashC ((L.map Pls.core).getD k Pls.zeroC)) := by
  rw [← h, List.map_set]
  congr 1
  simp [crash, crashC, Pls.core, hk]
theorem core_its {L M : List Pls.Pl} {k : Nat} (h : M.map Pls.core = L.map Pls.core) (hk : k < M.length) : (M.getD k Pls.zeroL).its.length = ((L.map Pls.core).getD k Pls.zeroC).its.length := by
  rw [← h]
  simp [Pls.core, hk]

/-- A cluster stored into a box. -/
def st7 (w : World) (X : Nat) (now nx lim lost : Int) (v4 v5 v6 : Value) : World := ((((((w.setCell ⟨X, 0, none⟩ (.int .i64 now)).setCell ⟨X, 1, none⟩ (.int .i64 nx)).setCell ⟨X, 2, none⟩ (.int .i64 lim)).setCell ⟨X, 3, none⟩ (.int .i64 lost)).setCell ⟨X, 4, none⟩ v4).setCell ⟨X, 5, none⟩ v5).setCell ⟨X, 6, none⟩ v6
theorem CB.st7 {w : World} {X : Nat} {n0 n1 n2 n3 : Int} {u4 u5 u6 : Value} (h : CB w X n0 n1 n2 n3 u4 u5 u6) (now nx lim lost : Int) (v4 v5 v6 : Value) : CB (st7 w X now nx lim lost v4 v5 v6) X now nx lim lost v4 v5 v6 :=
  ((((((h.set0 now).set1 nx).set2 lim).set3 lost).set4 v4).set5 v5).set6 v6
theorem CB.st7o {w : World} {X Y : Nat} {n0 n1 n2 n3 : Int} {u4 u5 u6 : Value} (h : CB w Y n0 n1 n2 n3 u4 u5 u6) (hX : X ≠ Y) (now nx lim lost : Int) (v4 v5 v6 : Value) : CB (Clus.st7 w X now nx lim lost v4 v5 v6) Y n0 n1 n2 n3 u4 u5 u6 :=
  ((((((h.other (p := ⟨X, 0, none⟩) hX _).other (p := ⟨X, 1, none⟩) hX _).other (p := ⟨X, 2, none⟩) hX _).other (p := ⟨X, 3, none⟩) hX _).other (p := ⟨X, 4, none⟩) hX _).other (p := ⟨X, 5, none⟩) hX _).other (p := ⟨X, 6, none⟩) hX _
theorem below_st7 {w w' : World} {B X : Nat} (h : Below B w w') (hX : B ≤ X) (now nx lim lost : Int) (v4 v5 v6 : Value) : Below B w (st7 w' X now nx lim lost v4 v5 v6) :=
  ((((((h.setCell (p := ⟨X, 0, none⟩) hX _).setCell (p := ⟨X, 1, none⟩) hX _).setCell (p := ⟨X, 2, none⟩) hX _).setCell (p := ⟨X, 3, none⟩) hX _).setCell (p := ⟨X, 4, none⟩) hX _).setCell (p := ⟨X, 5, none⟩) hX _).setCell (p := ⟨X, 6, none⟩) hX _
theorem CO.st7 {w : World} {B X : Nat} {c : Cl} (h : CO w B c) (hX : X < B) (now nx lim lost : Int) (v4 v5 v6 : Value) : CO (st7 w X now nx lim lost v4 v5 v6) B c :=
  ((((((h.set (p := ⟨X, 0, none⟩) hX _).set (p := ⟨X, 1, none⟩) hX _).set (p := ⟨X, 2, none⟩) hX _).set (p := ⟨X, 3, none⟩) hX _).set (p := ⟨X, 4, none⟩) hX _).set (p := ⟨X, 5, none⟩) hX _).set (p := ⟨X, 6, none⟩) hX _
theorem size_st7 (w : World) (X : Nat) (now nx lim lost : Int) (v4 v5 v6 : Value) : (st7 w X now nx lim lost v4 v5 v6).heap.size = w.heap.size := by simp [st7]

end Clus
end Go.Proofs.YtkodgbalhnbhcaaGreatDoor
/-
  The model's l7Old: what is old goes, at every place.
-/
namespace Go.Proofs.YtkodgbalhnbhcaaGreatDoor
namespace Clus
open Go.RowKit Base OwnR Plc Store
set_option linter.unusedVariables false

theorem pflat_put : ∀ (M : List Pls.Pl) (k : Nat) (y : Pls.Pl), k < M.length → ((((pflat M).set (k * 4) (.string y.name)).set (k * 4 + 1) (.int .i64 y.lim)).set (k * 4 + 2) (.int .i64 y.nx)).set (k * 4 + 3) (.slice y.a y.its.length y.cap) = pflat (M.set k y)
  | [], k, y, h => by simp at h
  | x :: m, k, y, h => by
    have e : pflat (x :: m) = pcells x ++ pflat m := by simp [pflat]
    have el : (pcells x).length = 4 := rfl
    rw [e]
    cases k with
    | zero => simp [pflat, pcells]
    | succ k =>
      rw [List.set_append_right _ _ (by omega), List.set_append_right _ _ (by omega), List.set_append_right _ _ (by omega), List.set_append_right _ _ (by omega), el, show (k + 1) * 4 - 4 = k * 4 by omega, show (k + 1) * 4 + 1 - 4 = k * 4 + 1 by omega, show (k + 1) * 4 + 2 - 4 = k * 4 + 2 by omega, show (k + 1) * 4 + 3 - 4 = k * 4 + 3 by omega, pflat_put m k y (by simpa using h)]
      simp [pflat]
/-- A place stored into a row. -/
def put4 (w : World) (g k : Nat) (y : Pls.Pl) : World := (((w.setCell ⟨g, k * 4, none⟩ (.string y.name)).setCell ⟨g, k * 4 + 1, none⟩ (.int .i64 y.lim)).setCell ⟨g, k * 4 + 2, none⟩ (.int .i64 y.nx)).setCell ⟨g, k * 4 + 3, none⟩ (.slice y.a y.its.length y.cap)
theorem own_put4 {w : World} {base : Nat} {e : TypeId} {size : Nat} {v : Value} {n : Nat} {xs : List Value} (h : w.ownsRow base e size v n xs) {g : Nat} (hg : v.ownBlock ≠ some g) (k : Nat) (y : Pls.Pl) : (put4 w g k y).ownsRow base e size v n xs :=
  ownsRow_setCell_other (ownsRow_setCell_other (ownsRow_setCell_other (ownsRow_setCell_other h (a := ⟨g, _, none⟩) hg _) (a := ⟨g, _, none⟩) hg _) (a := ⟨g, _, none⟩) hg _) (a := ⟨g, _, none⟩) hg _
theorem PO.put {w : World} {B g n cap : Nat} {M : List Pls.Pl} (h : PO w B (some ⟨g, 0, none⟩) n cap M) (k : Nat) (hk : k < M.length) (y : Pls.Pl) (hy : w.ownsRow B 85 5 (.slice y.a y.its.length y.cap) y.its.length (Own.flat y.its)) (hyf : (Value.slice y.a y.its.length y.cap).ownBlock ≠ some g) : PO (put4 w g k y) B (some ⟨g, 0, none⟩) n cap (M.set k y) := by
  refine ⟨by rw [List.length_set]; exact h.len, ?_, fun z hz => ?_, fun z hz q hq => ?_⟩
  · have := ((((h.row.stored (k * 4) (.string y.name)).1.stored (k * 4 + 1) (.int .i64 y.lim)).1.stored (k * 4 + 2) (.int .i64 y.nx)).1.stored (k * 4 + 3) (.slice y.a y.its.length y.cap)).1
    rw [pflat_put M k y hk] at this
    exact this
  · rcases List.mem_or_eq_of_mem_set hz with hz | rfl
    · exact own_put4 (h.its z hz) (fun e => h.far z hz g e rfl) k y
    · exact own_put4 hy hyf k z
  · rcases List.mem_or_eq_of_mem_set hz with hz | rfl
    · exact h.far z hz q hq
    · intro e
      have e' : g = q := by simpa [Value.ownBlock] using e
      exact hyf (by rw [hq, e'])
/-- The cluster with another place k. -/
def withP (c : Cl) (k : Nat) (y : Pls.Pl) : Cl := ⟨c.now, c.nx, c.lim, c.lost, c.na, c.nc, c.ns, c.ca, c.cc, c.cs, c.pa, c.pc, c.ps.set k y⟩
theorem CO.put {w : World} {B : Nat} {c : Cl} {g : Nat} (h : CO w B c) (hg : c.pa = some ⟨g, 0, none⟩) (k : Nat) (hk : k < c.ps.length) (y : Pls.Pl) (hy : w.ownsRow B 85 5 (.slice y.a y.its.length y.cap) y.its.length (Own.flat y.its)) (hyf : (Value.slice y.a y.its.length y.cap).ownBlock ≠ some g) : CO (put4 w g k y) B (withP c k y) := by
  have hp := h.p
  have h1 := h.fn
  have h2 := h.fm
  rw [hg] at hp h1 h2
  have e : (Value.slice (some ⟨g, 0, none⟩) c.ps.length c.pc).ownBlock = some g := rfl
  have el : (c.ps.set k y).length = c.ps.length := List.length_set
  refine ⟨own_put4 h.n (fun h' => h1 g h' e) k y, own_put4 h.m (fun h' => h2 g h' e) k y, ?_, ?_, ?_⟩
  · show PO _ B c.pa (c.ps.set k y).length c.pc _
    rw [el, hg]
    exact hp.put k hk y hy hyf
  · show ∀ q, (Value.slice c.na c.ns.length c.nc).ownBlock = some q → (Value.slice c.pa (c.ps.set k y).length c.pc).ownBlock ≠ some q
    rw [el, hg]; exact h1
  · show ∀ q, (Value.slice c.ca c.cs.length c.cc).ownBlock = some q → (Value.slice c.pa (c.ps.set k y).length c.pc).ownBlock ≠ some q
    rw [el, hg]; exact h2

def dropC (now : Int) (x : Pls.Core) : Pls.Core := ⟨x.name, x.lim, x.nx, Store.keepB x.its now⟩
theorem mix_at {N M : List Pls.Pl} {k : Nat} (hN : N.length = k) (hk : k < M.length) : (N ++ M.drop k).getD k Pls.zeroL = M.getD k Pls.zeroL := by
  simp only [List.getD_eq_getElem?_getD]
  rw [List.getElem?_append_right (by omega), hN, Nat.sub_self, List.getElem?_drop, Nat.add_zero]
theorem mix_set {N M : List Pls.Pl} {k : Nat} (hN : N.length = k) (hk : k < M.length) (y : Pls.Pl) : (N ++ M.drop k).set k y = (N ++ [y]) ++ M.drop (k + 1) := by
  rw [List.set_append_right _ _ (by omega), hN, Nat.sub_self, List.drop_eq_getElem_cons hk, List.set_cons_zero, List.append_assoc]
  rfl
theorem mix_core {N M : List Pls.Pl} {k : Nat} {now : Int} {y : Pls.Pl} (hk : k < M.length) (h : N.map Pls.core = (M.take k).map (fun x => dropC now (Pls.core x))) (hy : Pls.core y = dropC now (Pls.core (M.getD k Pls.zeroL))) : (N ++ [y]).map Pls.core = (M.take (k + 1)).map (fun x => dropC now (Pls.core x)) := by
  have e : M.getD k Pls.zeroL = M[k] := by simp [hk]
  rw [List.take_succ_eq_append_getElem hk, List.map_append, List.map_append, h, List.map_cons, List.map_cons, hy, e]
  rfl

set_option maxRecDepth 10000 in
set_option maxHeartbeats 2000000 in
theorem drop_any (lim nx : Int) (a : Option Addr) (cap : Nat) (its : List Items.Itm) (now : Int) (w : World) (h : Items.ItemsAt w a its) (hl : its.length ≤ 1048576) :
    Calls Tryz.prog 117 #[.agg #[.int .i64 lim, .int .i64 nx, .slice a its.length cap], .int .i64 now] w fun e w' =>
      ∃ a cap', e = .returned (.tuple #[.agg #[.int .i64 lim, .int .i64 nx, .slice a (Store.keepB its now).length cap'], .int .i64 (its.length - (Store.keepB its now).length)]) ∧
        w'.ownsRow w.heap.size 85 5 (.slice a (Store.keepB its now).length cap') (Store.keepB its now).length (Own.flat (Store.keepB its now)) ∧ Below w.heap.size w w' := by
  by_cases hne : its = []
  · subst hne
    go_enter Tryz.func117, Tryz.ntmps117
    go_wp2
    go_loopw [6, 13] (fun v iv wr => v = .slice none 0 0 ∧ iv = .int .i64 0 ∧ Hid (Below (w.heap.size + 2) ((w.alloc (.cells #[.int .i64 lim, .int .i64 nx, .slice a 0 cap] 57)).alloc (.cells #[.int .i64 0, .int .i64 0, .slice none 0 0] 57)) wr)) (fun _ _ _ => 0)
    case atStart => exact ⟨rfl, rfl, hide (Below.refl _ _)⟩
    case round =>
      obtain ⟨rfl, rfl, hbel⟩ := hrel
      have hB : Hid (Below w.heap.size w wr) := (bel2 w _ _).trans ((unhide hbel).mono (by omega))
      have hzw : w.heap.size + 2 ≤ wr.heap.size := by have := (unhide hbel).size; simp at this; omega
      have hs0 := fun o => (unhide hbel).cell (p := ⟨w.heap.size, o, none⟩) (by simp)
      have hs1 := fun o => (unhide hbel).cell (p := ⟨w.heap.size + 1, o, none⟩) (by simp)
      have hf0 := fun o => (unhide hbel).frozen (p := ⟨w.heap.size, o, none⟩) (by simp)
      have hf1 := fun o => (unhide hbel).frozen (p := ⟨w.heap.size + 1, o, none⟩) (by simp)
      go_wp2
      refine bodyPost_ret (v := .tuple #[.agg #[.int .i64 lim, .int .i64 nx, .slice none 0 0], .int .i64 0]) (by simp [results, Tryz.results117, go_sem, hs1]) rfl ⟨none, 0, rfl, World.ownsRow_nil _ _ _ _, ?_⟩
      repeat (refine Below.setCell ?_ (by first | (simp; done) | (simp; omega)) _)
      exact unhide hB
  · obtain ⟨b, off, rfl, hb, hc⟩ := h hne
    exact drop_some lim nx b off cap its now w hb hc hl
theorem box_far {w : World} {Y : Nat} {n0 n1 n2 n3 : Int} {u4 u5 u6 : Value} {base : Nat} {e : TypeId} {size : Nat} {v : Value} {n : Nat} {xs : List Value} (h : w.ownsRow base e size v n xs) (hc : CB w Y n0 n1 n2 n3 u4 u5 u6) (he : e ≠ 30) : v.ownBlock ≠ some Y := by
  intro hv
  rcases h.2 with ⟨rfl, _⟩ | ⟨q, cap, cur, rfl, _, hh, _⟩
  · simp [Value.ownBlock] at hv
  · have e1 : q = Y := by simpa [Value.ownBlock] using hv
    have hc' : w.heap[Y]? = _ := hc
    rw [e1, hc'] at hh
    simp only [Option.some.injEq, Obj.cells.injEq] at hh
    exact he hh.2.1.symm
theorem CO.box {w : World} {B Y : Nat} {c : Cl} {n0 n1 n2 n3 : Int} {u4 u5 u6 : Value} (h : CO w B c) (hc : CB w Y n0 n1 n2 n3 u4 u5 u6) (o : Nat) (v : Value) : CO (w.setCell ⟨Y, o, none⟩ v) B c :=
  ⟨ownsRow_setCell_other h.n (a := ⟨Y, o, none⟩) (box_far h.n hc (by decide)) v, ownsRow_setCell_other h.m (a := ⟨Y, o, none⟩) (box_far h.m hc (by decide)) v,
    ⟨h.p.len, ownsRow_setCell_other h.p.row (a := ⟨Y, o, none⟩) (box_far h.p.row hc (by decide)) v, fun x hx => ownsRow_setCell_other (h.p.its x hx) (a := ⟨Y, o, none⟩) (box_far (h.p.its x hx) hc (by decide)) v, h.p.far⟩, h.fn, h.fm⟩
theorem CO.box7 {w : World} {B Y : Nat} {c : Cl} {n0 n1 n2 n3 : Int} {u4 u5 u6 : Value} (h : CO w B c) (hc : CB w Y n0 n1 n2 n3 u4 u5 u6) (now nx lim lost : Int) (v4 v5 v6 : Value) : CO (Clus.st7 w Y now nx lim lost v4 v5 v6) B c := by
  have k0 := h.box hc 0 (.int .i64 now)
  have d0 := hc.set0 now
  have k1 := k0.box d0 1 (.int .i64 nx)
  have d1 := d0.set1 nx
  have k2 := k1.box d1 2 (.int .i64 lim)
  have d2 := d1.set2 lim
  have k3 := k2.box d2 3 (.int .i64 lost)
  have d3 := d2.set3 lost
  have k4 := k3.box d3 4 v4
  have d4 := d3.set4 v4
  have k5 := k4.box d4 5 v5
  exact k5.box (d4.set5 v5) 6 v6
/-- All that lay there is as it was, but for one block. -/
def Kp (g : Nat) (w w' : World) : Prop := ∀ q, q < w.heap.size → q ≠ g → w'.heap[q]? = w.heap[q]?
theorem Kp.of {g : Nat} {w w' : World} (h : Below w.heap.size w w') : Kp g w w' := fun q hq _ => h.block q hq
theorem Kp.below {g : Nat} {w w1 w2 : World} (h : Kp g w w1) (hz : w.heap.size ≤ w1.heap.size) (hb : Below w1.heap.size w1 w2) : Kp g w w2 := fun q hq hne => (hb.block q (by omega)).trans (h q hq hne)
theorem Kp.set {g : Nat} {w w1 : World} (h : Kp g w w1) (o : Nat) (v : Value) : Kp g w (w1.setCell ⟨g, o, none⟩ v) := fun q hq hne => (Below.heap_setCell w1 ⟨g, o, none⟩ v q hne).trans (h q hq hne)
theorem Kp.new {g Y : Nat} {w w1 : World} (h : Kp g w w1) (hY : w.heap.size ≤ Y) (o : Nat) (v : Value) : Kp g w (w1.setCell ⟨Y, o, none⟩ v) := fun q hq hne => (Below.heap_setCell w1 ⟨Y, o, none⟩ v q (by show q ≠ Y; omega)).trans (h q hq hne)
/-- How l7Old ends. -/
def OldEnd (c : Cl) (g : Nat) (w : World) (B : Nat) (e : Ending) (w' : World) : Prop :=
  ∃ N : List Pls.Pl, N.length = c.ps.length ∧ e = .returned (.agg #[.int .i64 c.now, .int .i64 c.nx, .int .i64 c.lim, .int .i64 c.lost, .slice c.na c.ns.length c.nc, .slice c.ca c.cs.length c.cc, .slice c.pa c.ps.length c.pc]) ∧ N.map Pls.core = c.ps.map (fun x => dropC c.now (Pls.core x)) ∧ CO w' B ⟨c.now, c.nx, c.lim, c.lost, c.na, c.nc, c.ns, c.ca, c.cc, c.cs, c.pa, c.pc, N⟩ ∧ Below B w w' ∧ w.heap.size ≤ w'.heap.size ∧ Kp g w w'

set_option maxRecDepth 10000 in
set_option maxHeartbeats 2000000 in
theorem old_spec (now nx lim lost : Int) (a1 : Option Addr) (c1 : Nat) (ns : List Nodes.D) (a2 : Option Addr) (c2 : Nat) (cs : List Nodes.D) (g c3 : Nat) (M : List Pls.Pl) (B : Nat) (w : World) (hB : B ≤ w.heap.size) (hco : CO w B ⟨now, nx, lim, lost, a1, c1, ns, a2, c2, cs, some ⟨g, 0, none⟩, c3, M⟩) (lp : M.length ≤ 1000) (li : ∀ x ∈ M, x.its.length ≤ 1000) (hg : g < w.heap.size) :
    Calls Tryz.prog 84 #[.agg #[.int .i64 now, .int .i64 nx, .int .i64 lim, .int .i64 lost, .slice a1 ns.length c1, .slice a2 cs.length c2, .slice (some ⟨g, 0, none⟩) M.length c3]] w (OldEnd ⟨now, nx, lim, lost, a1, c1, ns, a2, c2, cs, some ⟨g, 0, none⟩, c3, M⟩ g w B) := by
  obtain ⟨W, hW⟩ : ∃ W, W = (w.alloc (.cells #[.int .i64 now, .int .i64 nx, .int .i64 lim, .int .i64 lost, .slice a1 ns.length c1, .slice a2 cs.length c2, .slice (some ⟨g, 0, none⟩) M.length c3] 30)).alloc (.cells #[.int .i64 0, .int .i64 0, .int .i64 0, .int .i64 0, .slice none 0 0, .slice none 0 0, .slice none 0 0] 30) := ⟨_, rfl⟩
  have BW0 : Below w.heap.size w W := by rw [hW]; exact bel2 w _ _
  have BW : Hid (Below B w W) := BW0.mono hB
  have KW := hide (hco.below BW0 (Nat.le_refl _))
  have hzW : w.heap.size + 2 ≤ W.heap.size := by rw [hW]; simp
  have CX : Hid (CB W w.heap.size now nx lim lost (.slice a1 ns.length c1) (.slice a2 cs.length c2) (.slice (some ⟨g, 0, none⟩) M.length c3)) := by
    rw [hW]; exact ((bel1 (w.alloc _) _).block w.heap.size (by simp)).trans (heap_alloc_new w _)
  have CY : Hid (CB W (w.heap.size + 1) 0 0 0 0 (.slice none 0 0) (.slice none 0 0) (.slice none 0 0)) := by
    rw [hW]
    have := heap_alloc_new (w.alloc (.cells #[.int .i64 now, .int .i64 nx, .int .i64 lim, .int .i64 lost, .slice a1 ns.length c1, .slice a2 cs.length c2, .slice (some ⟨g, 0, none⟩) M.length c3] 30)) (.cells #[.int .i64 0, .int .i64 0, .int .i64 0, .int .i64 0, .slice none 0 0, .slice none 0 0, .slice none 0 0] 30)
    rw [World.size_alloc] at this
    exact this
  have HW := hide hW
  have HLI := hide li
  have KPW : Hid (Kp g w W) := Kp.of BW0
  clear hW BW0 hco li
  go_enter Tryz.func84, Tryz.ntmps84
  go_upto_region 1 with fail
  rw [← unhide HW]
  clear HW
  obtain ⟨x0, x1, x2, x3, x4, x5, x6, xf, xz⟩ := (unhide CX).cells
  go_wp2_with fail
  clear x0 x1 x2 x3 x4 x5 x6 xf xz
  go_loopw [8] (fun iv wr => ∃ (k : Nat) (N : List Pls.Pl), k ≤ M.length ∧ iv = .int .i64 (k : Int) ∧ Hid (N.length = k) ∧ Hid (N.map Pls.core = (M.take k).map (fun x => dropC now (Pls.core x))) ∧ Hid (CO wr B ⟨now, nx, lim, lost, a1, c1, ns, a2, c2, cs, some ⟨g, 0, none⟩, c3, N ++ M.drop k⟩) ∧ Hid (CB wr w.heap.size now nx lim lost (.slice a1 ns.length c1) (.slice a2 cs.length c2) (.slice (some ⟨g, 0, none⟩) M.length c3)) ∧ Hid (CB wr (w.heap.size + 1) 0 0 0 0 (.slice none 0 0) (.slice none 0 0) (.slice none 0 0)) ∧ Hid (Below B w wr) ∧ Hid (Kp g w wr) ∧ w.heap.size + 2 ≤ wr.heap.size) (fun iv _ => M.length - (intOf iv).toNat)
  case atStart => exact ⟨0, [], Nat.zero_le _, rfl, hide rfl, hide rfl, KW, CX, CY, BW, KPW, hzW⟩
  case round =>
    obtain ⟨k, N, hk, rfl, hN, hNc, hK, hX, hY, hbk, hkp, hzk⟩ := hrel
    obtain ⟨wk, hname⟩ : ∃ v, v = wr := ⟨_, rfl⟩
    subst hname
    clear KW CX CY BW
    by_cases hlt : k < M.length
    · have hlen : k < (N ++ M.drop k).length := by rw [List.length_append, List.length_drop, unhide hN]; omega
      obtain ⟨d0, d1, d2, d3⟩ := (unhide hK).p.pl k hlen
      rw [Nat.zero_add] at d0 d1 d2 d3
      have HIT := hide (Own.own_at ((unhide hK).p.its _ (Pls.getD_mem hlen)))
      rw [mix_at (unhide hN) hlt] at d0 d1 d2 d3 HIT
      have hil := unhide HLI _ (Pls.getD_mem hlt)
      have HCO := hide (fun (y : Pls.Pl) => mix_core (y := y) hlt (unhide hNc))
      have HST := hide (fun (y : Pls.Pl) => mix_set (unhide hN) hlt y)
      generalize M.getD k Pls.zeroL = x at d0 d1 d2 d3 HIT hil HCO
      obtain ⟨x0, x1, x2, x3, x4, x5, x6, xf, xz⟩ := (unhide hX).cells
      go_upto_region 4 with fail
      have q0 : (wk.alloc (.cells #[.string x.name, .int .i64 x.lim, .int .i64 x.nx, .slice x.a x.its.length x.cap] 59)).cell? ⟨wk.heap.size, 0, none⟩ = some (.string x.name) := by rw [World.cell?_alloc_new]; rfl
      have q1 : (wk.alloc (.cells #[.string x.name, .int .i64 x.lim, .int .i64 x.nx, .slice x.a x.its.length x.cap] 59)).cell? ⟨wk.heap.size, 1, none⟩ = some (.int .i64 x.lim) := by rw [World.cell?_alloc_new]; rfl
      have q2 : (wk.alloc (.cells #[.string x.name, .int .i64 x.lim, .int .i64 x.nx, .slice x.a x.its.length x.cap] 59)).cell? ⟨wk.heap.size, 2, none⟩ = some (.int .i64 x.nx) := by rw [World.cell?_alloc_new]; rfl
      have q3 : (wk.alloc (.cells #[.string x.name, .int .i64 x.lim, .int .i64 x.nx, .slice x.a x.its.length x.cap] 59)).cell? ⟨wk.heap.size, 3, none⟩ = some (.slice x.a x.its.length x.cap) := by rw [World.cell?_alloc_new]; rfl
      have qf : ∀ o, (wk.alloc (.cells #[.string x.name, .int .i64 x.lim, .int .i64 x.nx, .slice x.a x.its.length x.cap] 59)).frozen? ⟨wk.heap.size, o, none⟩ = false := fun o => by go_simp
      have BV := hide (bel1 wk (.cells #[.string x.name, .int .i64 x.lim, .int .i64 x.nx, .slice x.a x.its.length x.cap] 59))
      have hzV : wk.heap.size < (wk.alloc (.cells #[.string x.name, .int .i64 x.lim, .int .i64 x.nx, .slice x.a x.its.length x.cap] 59)).heap.size := by simp
      generalize wk.alloc (.cells #[.string x.name, .int .i64 x.lim, .int .i64 x.nx, .slice x.a x.its.length x.cap] 59) = V at q0 q1 q2 q3 qf BV hzV ⊢
      clear d0 d1 d2 d3 x0 x1 x2 x3 x4 x5 x6 xf xz
      have XV := hide ((unhide hX).below (unhide BV) (by omega))
      have HDR := hide (drop_any x.lim x.nx x.a x.cap x.its now V ((unhide HIT).below (unhide BV) (Nat.le_refl _)) (by omega))
      obtain ⟨x0, x1, x2, x3, x4, x5, x6, xf, xz⟩ := (unhide XV).cells
      go_wp2_with fail
      refine (unhide HDR).mono ?_
      rintro e w5 ⟨a5, c5, rfl, hown5, hb5⟩
      have HKL := hide (rfl : (Store.keepB x.its now).length = (Store.keepB x.its now).length)
      have I5 := hide hown5
      have hz5 := hb5.size
      have r0 := (hb5.cell (p := ⟨wk.heap.size, 0, none⟩) hzV).trans q0
      have r1 := (hb5.cell (p := ⟨wk.heap.size, 1, none⟩) hzV).trans q1
      have r2 := (hb5.cell (p := ⟨wk.heap.size, 2, none⟩) hzV).trans q2
      have r3 := (hb5.cell (p := ⟨wk.heap.size, 3, none⟩) hzV).trans q3
      have rf := fun o => (hb5.frozen (p := ⟨wk.heap.size, o, none⟩) hzV).trans (qf o)
      have hzp : wk.heap.size < w5.heap.size := by omega
      have B5 := hide ((unhide BV).trans (hb5.mono (by omega)))
      have HY := hide (unhide HCO ⟨x.name, x.lim, x.nx, a5, c5, Store.keepB x.its now⟩ rfl)
      have HS := hide (unhide HST ⟨x.name, x.lim, x.nx, a5, c5, Store.keepB x.its now⟩)
      clear hown5 hb5 q0 q1 q2 q3 qf x0 x1 x2 x3 x4 x5 x6 xf xz HDR XV HCO HST BV HIT
      generalize Store.keepB x.its now = kept at I5 HY HS ⊢
      go_upto_region 5 with fail
      have s0 : (((w5.setCell ⟨wk.heap.size, 1, none⟩ (.int .i64 x.lim)).setCell ⟨wk.heap.size, 2, none⟩ (.int .i64 x.nx)).setCell ⟨wk.heap.size, 3, none⟩ (.slice a5 kept.length c5)).cell? ⟨wk.heap.size, 0, none⟩ = some (.string x.name) := by go_simp
      have s1 : (((w5.setCell ⟨wk.heap.size, 1, none⟩ (.int .i64 x.lim)).setCell ⟨wk.heap.size, 2, none⟩ (.int .i64 x.nx)).setCell ⟨wk.heap.size, 3, none⟩ (.slice a5 kept.length c5)).cell? ⟨wk.heap.size, 1, none⟩ = some (.int .i64 x.lim) := by go_simp
      have s2 : (((w5.setCell ⟨wk.heap.size, 1, none⟩ (.int .i64 x.lim)).setCell ⟨wk.heap.size, 2, none⟩ (.int .i64 x.nx)).setCell ⟨wk.heap.size, 3, none⟩ (.slice a5 kept.length c5)).cell? ⟨wk.heap.size, 2, none⟩ = some (.int .i64 x.nx) := by go_simp
      have s3 : (((w5.setCell ⟨wk.heap.size, 1, none⟩ (.int .i64 x.lim)).setCell ⟨wk.heap.size, 2, none⟩ (.int .i64 x.nx)).setCell ⟨wk.heap.size, 3, none⟩ (.slice a5 kept.length c5)).cell? ⟨wk.heap.size, 3, none⟩ = some (.slice a5 kept.length c5) := by go_simp
      have hz6 : w5.heap.size ≤ (((w5.setCell ⟨wk.heap.size, 1, none⟩ (.int .i64 x.lim)).setCell ⟨wk.heap.size, 2, none⟩ (.int .i64 x.nx)).setCell ⟨wk.heap.size, 3, none⟩ (.slice a5 kept.length c5)).heap.size := by simp
      have B6 := hide ((((unhide B5).setCell (p := ⟨wk.heap.size, 1, none⟩) (Nat.le_refl _) (.int .i64 x.lim)).setCell (p := ⟨wk.heap.size, 2, none⟩) (Nat.le_refl _) (.int .i64 x.nx)).setCell (p := ⟨wk.heap.size, 3, none⟩) (Nat.le_refl _) (.slice a5 kept.length c5))
      have I6 := hide (ownsRow_setCell_below (ownsRow_setCell_below (ownsRow_setCell_below (unhide I5) (a := ⟨wk.heap.size, 1, none⟩) hzV (.int .i64 x.lim)) (a := ⟨wk.heap.size, 2, none⟩) hzV (.int .i64 x.nx)) (a := ⟨wk.heap.size, 3, none⟩) hzV (.slice a5 kept.length c5))
      have HF5 : Hid ((Value.slice a5 kept.length c5).ownBlock ≠ some g) := fun e => by
        have := ((unhide I5).lt g e).1
        omega
      generalize ((w5.setCell ⟨wk.heap.size, 1, none⟩ (.int .i64 x.lim)).setCell ⟨wk.heap.size, 2, none⟩ (.int .i64 x.nx)).setCell ⟨wk.heap.size, 3, none⟩ (.slice a5 kept.length c5) = w6 at s0 s1 s2 s3 hz6 B6 I6 ⊢
      clear r0 r1 r2 r3 rf I5 B5
      have X6 := hide ((unhide hX).below (unhide B6) (by omega))
      have Y6 := hide ((unhide hY).below (unhide B6) (by omega))
      have K6 := hide ((unhide hK).below (unhide B6) (Nat.le_refl _))
      have G6 := hide ((unhide hbk).trans ((unhide B6).mono (by omega)))
      have KP8 := hide ((((((unhide hkp).below (by omega) (unhide B6)).set (k * 4) (.string x.name)).set (k * 4 + 1) (.int .i64 x.lim)).set (k * 4 + 2) (.int .i64 x.nx)).set (k * 4 + 3) (.slice a5 kept.length c5))
      have K7 := hide ((unhide K6).put rfl k hlen ⟨x.name, x.lim, x.nx, a5, c5, kept⟩ (own_le (unhide I6) (by omega)) (unhide HF5))
      have K8 : Hid (CO (put4 w6 g k ⟨x.name, x.lim, x.nx, a5, c5, kept⟩) B ⟨now, nx, lim, lost, a1, c1, ns, a2, c2, cs, some ⟨g, 0, none⟩, c3, (N ++ [⟨x.name, x.lim, x.nx, a5, c5, kept⟩]) ++ M.drop (k + 1)⟩) := by
        rw [← unhide HS]
        exact unhide K7
      obtain ⟨p0, p1, p2, p3⟩ := (unhide K6).p.pl k hlen
      rw [Nat.zero_add] at p0 p1 p2 p3
      have gf : ∀ j, w6.frozen? ⟨g, j, none⟩ = false := fun j => (unhide K6).p.row.frozenAt j
      have HNL : Hid ((N ++ [(⟨x.name, x.lim, x.nx, a5, c5, kept⟩ : Pls.Pl)]).length = k + 1) := hide (by rw [List.length_append, unhide hN]; rfl)
      have hgz : g < w6.heap.size := by omega
      clear hK hX hY hbk hN hNc K6 K7 HS I6 B6 HF5 HKL hlen
      have X8 := hide (((((unhide X6).other (p := ⟨g, k * 4, none⟩) (by show g ≠ w.heap.size; omega) (.string x.name)).other (p := ⟨g, k * 4 + 1, none⟩) (by show g ≠ w.heap.size; omega) (.int .i64 x.lim)).other (p := ⟨g, k * 4 + 2, none⟩) (by show g ≠ w.heap.size; omega) (.int .i64 x.nx)).other (p := ⟨g, k * 4 + 3, none⟩) (by show g ≠ w.heap.size; omega) (.slice a5 kept.length c5))
      have Y8 := hide (((((unhide Y6).other (p := ⟨g, k * 4, none⟩) (by show g ≠ w.heap.size + 1; omega) (.string x.name)).other (p := ⟨g, k * 4 + 1, none⟩) (by show g ≠ w.heap.size + 1; omega) (.int .i64 x.lim)).other (p := ⟨g, k * 4 + 2, none⟩) (by show g ≠ w.heap.size + 1; omega) (.int .i64 x.nx)).other (p := ⟨g, k * 4 + 3, none⟩) (by show g ≠ w.heap.size + 1; omega) (.slice a5 kept.length c5))
      have hBg : B ≤ g := ((unhide K8).p.row.lt g rfl).1
      have G8 := hide (((((unhide G6).setCell (p := ⟨g, k * 4, none⟩) hBg (.string x.name)).setCell (p := ⟨g, k * 4 + 1, none⟩) hBg (.int .i64 x.lim)).setCell (p := ⟨g, k * 4 + 2, none⟩) hBg (.int .i64 x.nx)).setCell (p := ⟨g, k * 4 + 3, none⟩) hBg (.slice a5 kept.length c5))
      have hz8 : w.heap.size + 2 ≤ ((((w6.setCell ⟨g, k * 4, none⟩ (.string x.name)).setCell ⟨g, k * 4 + 1, none⟩ (.int .i64 x.lim)).setCell ⟨g, k * 4 + 2, none⟩ (.int .i64 x.nx)).setCell ⟨g, k * 4 + 3, none⟩ (.slice a5 kept.length c5)).heap.size := by simp; omega
      unfold put4 at K8
      dsimp only at K8
      obtain ⟨x0, x1, x2, x3, x4, x5, x6, xf, xz⟩ := (unhide X6).cells
      go_upto_region 6 with fail
      clear x0 x1 x2 x3 x4 x5 x6 xf xz p0 p1 p2 p3 gf s0 s1 s2 s3 X6 Y6 G6
      generalize (((w6.setCell ⟨g, k * 4, none⟩ (.string x.name)).setCell ⟨g, k * 4 + 1, none⟩ (.int .i64 x.lim)).setCell ⟨g, k * 4 + 2, none⟩ (.int .i64 x.nx)).setCell ⟨g, k * 4 + 3, none⟩ (.slice a5 kept.length c5) = w8 at K8 X8 Y8 G8 hz8 KP8 ⊢
      go_wp2
      go_roundw
      case rel => exact ⟨k + 1, _, by omega, by go_num, HNL, HY, K8, X8, Y8, G8, KP8, hz8⟩
      case measure => simp [intOf]; omega
    · obtain rfl : k = M.length := by omega
      rw [List.drop_length, List.append_nil] at hK
      rw [List.take_length] at hNc
      obtain ⟨x0, x1, x2, x3, x4, x5, x6, xf, xz⟩ := (unhide hX).cells
      obtain ⟨y0, y1, y2, y3, y4, y5, y6, yf, yz⟩ := (unhide hY).cells
      go_wp2
      refine bodyPost_ret (v := .agg #[.int .i64 now, .int .i64 nx, .int .i64 lim, .int .i64 lost, .slice a1 ns.length c1, .slice a2 cs.length c2, .slice (some ⟨g, 0, none⟩) M.length c3]) (by simp [results, Tryz.results84, go_sem, y0, y1, y2, y3, y4, y5, y6]) rfl ⟨N, unhide hN, rfl, unhide hNc, ?_, ?_, ?_, ?_⟩
      · exact (unhide hK).box7 (unhide hY) now nx lim lost (.slice a1 ns.length c1) (.slice a2 cs.length c2) (.slice (some ⟨g, 0, none⟩) M.length c3)
      · repeat (refine Below.setCell ?_ (by first | (simp; done) | (simp; omega)) _)
        exact unhide hbk
      · simp; omega
      · repeat (refine Kp.new ?_ (by omega) _ _)
        exact unhide hkp
end Clus
end Go.Proofs.YtkodgbalhnbhcaaGreatDoor
/-
  strings.Clone hands back the text; the program's copyOfItem its item.
-/
namespace Go.Proofs.YtkodgbalhnbhcaaGreatDoor
namespace Shelf
open Go.RowKit Base Items Keep Own Chain Store
set_option linter.unusedVariables false

theorem clone_runs (s : ByteArray) (w : World) (h0 : s.size ≠ 0) (hs : s.size ≤ 1048576) : ∃ W2 W3 : World,
    (Builtin.copy_ #[123, 9] 3 #[.slice (some ⟨w.heap.size, 0, none⟩) s.size s.size, .string s]).run Tryz.prog (w.alloc (.cells (madeCells #[.int .u8 0] s.size) 5)) = .ok (.int .i64 s.size) W2 ∧
    (Builtin.unsafeString_ #[171, 3] 9 #[.pointer (some ⟨w.heap.size, 0, none⟩), .int .i64 s.size]).run Tryz.prog W2 = .ok (.string s) W3 ∧ W2.heap.size = w.heap.size + 1 ∧ Below w.heap.size w W3 := by
  have hA : (w.alloc (.cells (madeCells #[.int .u8 0] s.size) 5)).heap[w.heap.size]? = some (.cells (madeCells #[.int .u8 0] s.size) 5 (0, 0)) := heap_alloc_new w _
  have hcp := Lib.run_copy_row_string (P := Tryz.prog) (w.alloc (.cells (madeCells #[.int .u8 0] s.size) 5)) 123 9 3 5 w.heap.size 0 s.size s.size s (madeCells #[.int .u8 0] s.size) 5 Tryz.underlying123 (by kernel_rfl) hA (Nat.le_refl _) (by rw [size_madeCells]; omega)
  have el : s.data.toList.length = s.size := by simp
  have ec : ((madeCells #[Value.int .u8 0] s.size).toList.take 0 ++ Lib.byteCells s.data.toList ++ (madeCells #[Value.int .u8 0] s.size).toList.drop (0 + s.size)) = Lib.byteCells s.data.toList := by
    rw [List.take_zero, List.nil_append, List.drop_eq_nil_of_le (by rw [Array.length_toList, size_madeCells]; omega), List.append_nil]
  rw [ec] at hcp
  have hh := setRow_heap (w.alloc (.cells (madeCells #[.int .u8 0] s.size) 5)) w.heap.size _ (Lib.byteCells s.data.toList).toArray _ _ hA
  have hus := Lib.run_unsafeString_row (P := Tryz.prog) ((w.alloc (.cells (madeCells #[.int .u8 0] s.size) 5)).setRow w.heap.size (Lib.byteCells s.data.toList).toArray) 171 3 9 5 Tryz.underlying171 (by kernel_rfl) w.heap.size s.size
    (by unfold World.shape?; rw [hh]; simp [Lib.byteCells_length]) s.data.toList (by intro e; rw [e] at el; simp at el; omega) (by omega) (by omega)
    (fun j x hj => by
      rw [Go.WideShapes.add_plain, Nat.zero_add, cell_setRow_same _ _ _ _ _ _ _ hA]
      simp [Lib.byteCells, hj])
  rw [el] at hus
  refine ⟨_, _, hcp, hus, by simp, ?_⟩
  exact Lib.below_freeze (below_setRow (bel1 w _) (Nat.le_refl _) _) (Nat.le_refl _) _

set_option maxRecDepth 10000 in
set_option maxHeartbeats 1000000 in
theorem sclone_any (s : ByteArray) (w : World) (hs : s.size ≤ 1048576) : Calls Tryz.prog 106 #[.string s] w fun e w' => e = .returned (.string s) ∧ Below w.heap.size w w' := by
  by_cases h0 : s.size = 0
  · have e0 : s = ByteArray.empty := by
      apply Go.WideShapes.bytes_inj
      have : s.data.toList.length = 0 := by simpa using h0
      rw [List.length_eq_zero_iff.1 this]; rfl
    subst e0
    clear h0 hs
    go_enter Tryz.func106, Tryz.ntmps106
    go_wp2
    go_ret
    exact ⟨rfl, Below.refl _ _⟩
  have h0' : ¬ (s.size : Int) = 0 := by omega
  have hmk := fun w => run_make_rows (P := Tryz.prog) 123 5 (.int .u8 0) 1 1 Tryz.underlying123 (by kernel_rfl) .i64 .i64 s.size (by omega) (by omega) w
  rw [Nat.mul_one] at hmk
  have hmk' : (Instr.makeSlice 123 (.int .i64 s.size) (.int .i64 s.size)).run Tryz.prog w = .ok (.slice (some ⟨w.heap.size, 0, none⟩) s.size s.size) (w.alloc (.cells (madeCells #[.int .u8 0] s.size) 5)) := hmk w
  obtain ⟨W2, W3, hcp, hus, hz, hb⟩ := clone_runs s w h0 hs
  have HB := hide hb
  have hpos : (0 : Int) < s.size := by omega
  clear hmk hb
  go_enter Tryz.func106, Tryz.ntmps106
  go_wp2
  go_ret
  exact ⟨rfl, unhide HB⟩

set_option maxRecDepth 10000 in
set_option maxHeartbeats 1000000 in
theorem clone_any (s : ByteArray) (w : World) (hs : s.size ≤ 1048576) : Calls Tryz.prog 74 #[.string s] w fun e w' => e = .returned (.string s) ∧ Below w.heap.size w w' := by
  go_enter Tryz.func74, Tryz.ntmps74
  go_wp2_with fail
  refine (sclone_any s _ hs).mono ?_
  rintro e w1 ⟨rfl, hb1⟩
  have HB := hide hb1
  clear hb1
  go_wp2
  go_ret
  exact ⟨rfl, unhide HB⟩

set_option maxRecDepth 10000 in
set_option maxHeartbeats 1000000 in
theorem copyOf_any (x : Itm) (w : World) (hx : Small x) : Calls Tryz.prog 146 #[.agg #[.string x.key, .int .i64 x.flags, .string x.data, .int .i64 x.upto, .int .i64 x.token]] w fun e w' => e = .returned (itemV x) ∧ Below w.heap.size w w' := by
  obtain ⟨h1, h2⟩ := hx
  go_enter Tryz.func146, Tryz.ntmps146
  go_wp2_with fail
  refine (clone_any x.key _ h1).mono ?_
  rintro e w1 ⟨rfl, hb1⟩
  have B1 := hide ((bel2 w _ _).trans (hb1.mono (by simp; omega)))
  simp only [World.size_alloc] at hb1
  have q1 := fun o => hb1.cell (p := ⟨w.heap.size, o, none⟩) (by simp; omega)
  have q2 := fun o => hb1.cell (p := ⟨w.heap.size + 1, o, none⟩) (by simp)
  have p1 := fun o => hb1.frozen (p := ⟨w.heap.size, o, none⟩) (by simp; omega)
  have p2 := fun o => hb1.frozen (p := ⟨w.heap.size + 1, o, none⟩) (by simp)
  have hz1 : w.heap.size + 1 < w1.heap.size := by have := hb1.size; simp at this; omega
  clear hb1
  go_wp2_with fail
  refine (clone_any x.data _ h2).mono ?_
  rintro e w2 ⟨rfl, hb2⟩
  have hsz : (w1.setCell ⟨w.heap.size, 0, none⟩ (.string x.key)).heap.size = w1.heap.size := by simp [World.setCell]
  rw [hsz] at hb2
  have B2 := hide (((unhide B1).setCell (p := ⟨w.heap.size, 0, none⟩) (Nat.le_refl _) (.string x.key)).trans (hb2.mono (by omega)))
  have r1 := fun o => hb2.cell (p := ⟨w.heap.size, o, none⟩) (by simp; omega)
  have r2 := fun o => hb2.cell (p := ⟨w.heap.size + 1, o, none⟩) (by simp; omega)
  have s1 := fun o => hb2.frozen (p := ⟨w.heap.size, o, none⟩) (by simp; omega)
  have s2 := fun o => hb2.frozen (p := ⟨w.heap.size + 1, o, none⟩) (by simp; omega)
  clear hb2 hsz
  go_wp2
  refine bodyPost_ret (v := itemV x) (by simp [results, Tryz.results146, go_sem, itemV, r2, q2]; done) rfl ⟨rfl, ?_⟩
  repeat (refine Below.setCell ?_ (by first | (simp; done) | (simp; omega)) _)
  exact unhide B2
end Shelf
end Go.Proofs.YtkodgbalhnbhcaaGreatDoor
/-
  The program's shelf: store, find.
-/
namespace Go.Proofs.YtkodgbalhnbhcaaGreatDoor
namespace Shelf
open Go.RowKit Base Items Keep Own Chain Store
set_option linter.unusedVariables false

theorem set_self {α : Type} {xs : List α} {j : Nat} {v : α} (h : xs[j]? = some v) : xs.set j v = xs := by
  obtain ⟨hj, rfl⟩ := List.getElem?_eq_some_iff.1 h
  simp
/-- An item is written over itself. -/
theorem row_same {w : World} {t : TypeId} {g cap : Nat} {its : List Itm} (h : Row w t 5 g its.length cap (flat its)) {k : Nat} (hk : k < its.length) {x : Itm} (hx : x = its.getD k zero) :
    Row (((((w.setCell ⟨g, k * 5, none⟩ (.string x.key)).setCell ⟨g, k * 5 + 1, none⟩ (.int .i64 x.flags)).setCell ⟨g, k * 5 + 2, none⟩ (.string x.data)).setCell ⟨g, k * 5 + 3, none⟩ (.int .i64 x.upto)).setCell ⟨g, k * 5 + 4, none⟩ (.int .i64 x.token)) t 5 g its.length cap (flat its) := by
  subst hx
  have e0 : (flat its)[k * 5]? = some (.string (its.getD k zero).key) := by rw [flat_get its _ (by omega), icell, show (k * 5) % 5 = 0 by omega, show (k * 5) / 5 = k by omega]; simp
  have e1 : (flat its)[k * 5 + 1]? = some (.int .i64 (its.getD k zero).flags) := by rw [flat_get its _ (by omega), icell, show (k * 5 + 1) % 5 = 1 by omega, show (k * 5 + 1) / 5 = k by omega]; simp
  have e2 : (flat its)[k * 5 + 2]? = some (.string (its.getD k zero).data) := by rw [flat_get its _ (by omega), icell, show (k * 5 + 2) % 5 = 2 by omega, show (k * 5 + 2) / 5 = k by omega]; simp
  have e3 : (flat its)[k * 5 + 3]? = some (.int .i64 (its.getD k zero).upto) := by rw [flat_get its _ (by omega), icell, show (k * 5 + 3) % 5 = 3 by omega, show (k * 5 + 3) / 5 = k by omega]; simp
  have e4 : (flat its)[k * 5 + 4]? = some (.int .i64 (its.getD k zero).token) := by rw [flat_get its _ (by omega), icell, show (k * 5 + 4) % 5 = 4 by omega, show (k * 5 + 4) / 5 = k by omega]; simp
  have h0 := row_set h (j := k * 5) (by omega) (.string (its.getD k zero).key)
  rw [set_self e0] at h0
  have h1 := row_set h0 (j := k * 5 + 1) (by omega) (.int .i64 (its.getD k zero).flags)
  rw [set_self e1] at h1
  have h2 := row_set h1 (j := k * 5 + 2) (by omega) (.string (its.getD k zero).data)
  rw [set_self e2] at h2
  have h3 := row_set h2 (j := k * 5 + 3) (by omega) (.int .i64 (its.getD k zero).upto)
  rw [set_self e3] at h3
  have h4 := row_set h3 (j := k * 5 + 4) (by omega) (.int .i64 (its.getD k zero).token)
  rw [set_self e4] at h4
  exact h4

set_option maxRecDepth 10000 in
set_option maxHeartbeats 2000000 in
theorem store_shelf (w : World) (hb : Nat) (S : List Nat) (lim nx lost : Int) (its : List Itm) (hs : Shelf w hb S lim nx lost its) (hl : its.length ≤ 100) :
    Calls Tryz.prog 111 #[.pointer (some ⟨hb, 0, none⟩)] w fun e w' => ∃ a cap, e = .returned (.agg #[.int .i64 lim, .int .i64 nx, .slice a its.length cap]) ∧
      w'.ownsRow w.heap.size 85 5 (.slice a its.length cap) its.length (flat its) ∧ Below w.heap.size w w' := by
  have hks := hide (shelf_keys hs).2
  obtain ⟨gl, gf, bm, ls, free, order, cl, vf, D, hp⟩ := hs
  have hol : order.length = its.length := by rw [← hp.items, items_len]
  have hval := fun w' (hk : Below w.heap.size w w') => values_any w' hb _ gl gf ls free order cl vf (hp.keep (Keeps.of_below (S := []) hk (fun _ h1 _ => h1)) (by simp)).mem hp.good (by have := hp.len; omega)
  rw [hp.items, hol] at hval
  have HV := hide hval
  have HBX := hide (hp.mem.box)
  have hlt := hp.mem.box.lt
  clear hval hp
  go_enter Tryz.func111, Tryz.ntmps111
  go_wp2_with fail
  refine (unhide HV _ (bel1 w _)).mono ?_
  rintro e w1 ⟨va, vc, rfl, hown, hb1⟩
  simp only [World.size_alloc] at hown hb1
  have HO := hide hown
  have HB1 := hide hb1
  clear hown hb1 HV
  go_wp2_with fail
  go_loopw [12] (fun i wr => ∃ (k : Nat), k ≤ its.length ∧ i = .int .i64 k ∧ Hid (wr.ownsRow (w.heap.size + 1) 85 5 (.slice va its.length vc) its.length (flat its)) ∧ Hid (Below (w.heap.size + 1) (w.alloc (.cells #[.int .i64 0, .int .i64 0, .slice none 0 0] 57)) wr)) (fun i _ => its.length - (intOf i).toNat)
  case atStart => exact ⟨0, Nat.zero_le _, rfl, HO, HB1⟩
  case round =>
    obtain ⟨k, hk, rfl, hown, hbel⟩ := hrel
    have hB : Hid (Below w.heap.size w wr) := (bel1 w _).trans ((unhide hbel).mono (by omega))
    have hzw : w.heap.size + 1 ≤ wr.heap.size := by have := (unhide hbel).size; simp at this; omega
    by_cases hlt' : k < its.length
    · obtain ⟨g, cap, hva, hg, hrow⟩ := Row.of_owns (unhide hown) (by omega)
      simp only [Value.slice.injEq, true_and] at hva
      obtain ⟨rfl, rfl⟩ := hva
      obtain ⟨c0, c1, c2, c3, c4⟩ := row_at hrow hlt'
      have hsm := hide (small_getD (unhide hks) k hlt')
      have hsame := hide (fun (W : World) (h : Row W 85 5 g its.length vc (flat its)) => row_same h hlt' (x := its.getD k zero) rfl)
      have HR := hide hrow
      have hgl := hrow.lt
      have hki : (k : Int) < its.length := by omega
      clear hrow
      have hcc := hide (fun (W : World) (h : Row W 85 5 g its.length vc (flat its)) => row_at h hlt')
      generalize its.getD k zero = x at c0 c1 c2 c3 c4 hsm hsame hcc
      go_wp2_with fail
      refine (copyOf_any x _ (unhide hsm)).mono ?_
      rintro e w2 ⟨rfl, hb2⟩
      simp only [World.size_alloc] at hb2
      have HR2 := hide (((unhide HR).alloc (.cells #[.string x.key, .int .i64 x.flags, .string x.data, .int .i64 x.upto, .int .i64 x.token] 85)).of_block (hb2.block g (by omega)))
      have HB2 := hide (((unhide hbel).alloc (by omega) _).trans (hb2.mono (by omega)))
      obtain ⟨d0, d1, d2, d3, d4⟩ := unhide hcc _ (unhide HR2)
      have fz := fun j => Row.frozen (unhide HR2) j
      clear c0 c1 c2 c3 c4 hb2
      unfold itemV
      go_wp2
      have R5 := unhide hsame _ (unhide HR2)
      have B5 := (((((unhide HB2).setCell (p := ⟨g, k * 5, none⟩) hg (.string x.key)).setCell (p := ⟨g, k * 5 + 1, none⟩) hg (.int .i64 x.flags)).setCell (p := ⟨g, k * 5 + 2, none⟩) hg (.string x.data)).setCell (p := ⟨g, k * 5 + 3, none⟩) hg (.int .i64 x.upto)).setCell (p := ⟨g, k * 5 + 4, none⟩) hg (.int .i64 x.token)
      go_roundw
      case rel => exact ⟨k + 1, by omega, by go_num, hide (R5.owns hg), hide B5⟩
      case measure => simp [intOf]; omega
    · obtain ⟨c0, c1, c2, c3, c4, c5, c6⟩ := ((unhide HBX).of_block ((unhide hB).block hb hlt)).cells
      have hr := fun o => (unhide hbel).cell (p := ⟨w.heap.size, o, none⟩) (by simp)
      have hrf := fun o => (unhide hbel).frozen (p := ⟨w.heap.size, o, none⟩) (by simp)
      clear c2 c3 c4 c5 c6
      go_wp2
      go_region
      go_wp2
      refine bodyPost_ret (v := .agg #[.int .i64 lim, .int .i64 nx, .slice va its.length vc]) (by simp [results, Tryz.results111, go_sem, hr]; done) rfl ⟨va, vc, rfl, ?_, ?_⟩
      · refine own_le (base := w.heap.size + 1) ?_ (by omega)
        show ((((wr.setCell ⟨w.heap.size, 0, none⟩ (.int .i64 lim)).setCell ⟨w.heap.size, 1, none⟩ (.int .i64 nx)).setCell ⟨w.heap.size, 2, none⟩ (.slice va its.length vc))).ownsRow (w.heap.size + 1) _ _ _ _ _
        exact ownsRow_setCell_below (ownsRow_setCell_below (ownsRow_setCell_below (unhide hown) (show w.heap.size < w.heap.size + 1 by omega) _) (show w.heap.size < w.heap.size + 1 by omega) _) (show w.heap.size < w.heap.size + 1 by omega) _
      · exact ((((unhide hB).setCell (p := ⟨w.heap.size, 0, none⟩) (Nat.le_refl _) _).setCell (p := ⟨w.heap.size, 1, none⟩) (Nat.le_refl _) _).setCell (p := ⟨w.heap.size, 2, none⟩) (Nat.le_refl _) _).drew
end Shelf
end Go.Proofs.YtkodgbalhnbhcaaGreatDoor
