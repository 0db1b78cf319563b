/-
  The program's (*fleet).leftAt: the keys of a place that do not belong there on the ring that is gone to.
-/
import Derived.Test.YtkodgbalhnbhcaaGreatDoorZ23
import Derived.Test.YtkodgbalhnbhcaaGreatDoorZ4
import Derived.Test.YtkodgbalhnbhcaaGreatDoorZ6
import Derived.LaidEqlPtr
import Derived.Lib.QuietBelow
import Derived.BigQuiet
import Derived.Test.YtkodgbalhnbhcaaGreatDoorZ22
import Derived.Laws.IdiomCopy
namespace Go.Proofs.YtkodgbalhnbhcaaGreatDoor
namespace Fleet
open Go.RowKit Base Store Items OwnR Keep Clus Marks Plc
set_option linter.unusedVariables false

/-- The keys that are left at place k: not old, and another one's. -/
def leftK (now : Int) (oi : ByteArray → Nat) (k : Nat) (its : List Itm) : List ByteArray := (its.filter (fun x => !oldB x now && decide (oi x.key ≠ k))).map (·.key)
theorem left_step (now : Int) (oi : ByteArray → Nat) (k : Nat) (its : List Itm) (j : Nat) (hj : j < its.length) : leftK now oi k (its.take (j + 1)) = leftK now oi k (its.take j) ++ (if (!oldB (its.getD j zero) now && decide (oi (its.getD j zero).key ≠ k)) = true then [(its.getD j zero).key] else []) := by
  have e : its.getD j zero = its[j] := by simp [hj]
  rw [List.take_succ_eq_append_getElem hj, e]
  unfold leftK
  rw [List.filter_append, List.map_append]
  congr 1
  simp only [List.filter_cons, List.filter_nil]
  split <;> rfl
theorem left_len (now : Int) (oi : ByteArray → Nat) (k : Nat) (its : List Itm) : (leftK now oi k its).length ≤ its.length := by
  unfold leftK
  rw [List.length_map]; exact List.length_filter_le _ _
theorem it_mem {its : List Itm} {j : Nat} (hj : j < its.length) : its.getD j zero ∈ its := by
  have e : its.getD j zero = its[j] := by simp [hj]
  rw [e]; exact List.getElem_mem hj
/-- How (*fleet).leftAt ends. -/
def LfEnd (keys : List ByteArray) (w : World) (e : Ending) (w' : World) : Prop := ∃ a cap, e = .returned (.slice a keys.length cap) ∧ w'.ownsRow w.heap.size 9 1 (.slice a keys.length cap) keys.length (StringsW.flat keys) ∧ Below w.heap.size w w'
theorem info_place : ∃ j, Tryz.prog.info? 104 = some j ∧ j.size ≠ 0 := by
  have h : (Tryz.prog.info? 104).map (·.size) = some 2 := by kernel_rfl
  obtain ⟨j, hj, hz⟩ := Option.map_eq_some_iff.1 h
  exact ⟨j, hj, by omega⟩
theorem neq_place {w : World} {M X : Nat} {f : Fl} (h : FleetAt w M X f) {i k : Nat} (hi : i < f.ps.length) (hk : k < f.ps.length) :
    (binOp .neq 112 (.pointer (some ⟨(f.ps.getD i zeroP).pb, 0, none⟩)) (.pointer (some ⟨(f.ps.getD k zeroP).pb, 0, none⟩))).run Tryz.prog w = .ok (.bool (decide (i ≠ k))) w := by
  obtain ⟨j, hj, hz⟩ := info_place
  by_cases e : i = k
  · subst e
    rw [Lib.run_neq_ptr_same w _ Tryz.underlying112 hj]
    simp
  · have hb1 := (h.pl _ (getD_mem hi)).box
    have hb2 := (h.pl _ (getD_mem hk)).box
    have hne : (⟨(f.ps.getD i zeroP).pb, 0, none⟩ : Addr) ≠ ⟨(f.ps.getD k zeroP).pb, 0, none⟩ := by
      intro e2
      simp only [Addr.mk.injEq, and_true] at e2
      have := apart_at h.apart hi hk e (f.ps.getD i zeroP).pb (by rw [← getD_at hi]; exact List.mem_cons_self)
      rw [e2, ← getD_at hk] at this
      exact this List.mem_cons_self
    have hq : ∀ d : Nat, (Op.equalIn (d + 1) 112 (.pointer (some ⟨(f.ps.getD i zeroP).pb, 0, none⟩)) (.pointer (some ⟨(f.ps.getD k zeroP).pb, 0, none⟩))).run Tryz.prog w = .ok false w := fun d => by
      simp [-List.getD_eq_getElem?_getD, Op.equalIn, run_underlying Tryz.underlying112, sizeOf, typeInfo, hj, hz, run_sameAddr_other w hne hb1 hb2]
    simp only [binOp]
    simp [-List.getD_eq_getElem?_getD, Op.equal, Op.maxDepth, hq 9999, e]

theorem own_slice {w : World} {B : Nat} {t : TypeId} {sz n : Nat} {v : Value} {xs : List Value} (h : w.ownsRow B t sz v n xs) : ∃ a cap, v = .slice a n cap := by
  rcases h.2 with ⟨h, h0⟩ | ⟨g, cap', cur, hv, _⟩
  · exact ⟨_, _, by rw [h, h0]⟩
  · exact ⟨_, _, hv⟩
set_option maxRecDepth 10000 in
set_option maxHeartbeats 4000000 in
theorem leftAt_any (M X : Nat) (f : Fl) (k rg rc m : Nat) (P : List Points.D) (oi : ByteArray → Nat) (w : World) (hf : FleetAt w M X f) (hl : f.ps.length ≤ 1000) (hs : Rising ((nms f).map toL)) (h7 : f.v7 = .slice (some ⟨rg, 0, none⟩) m rc)
    (hr : RowAt w rg 129 (m * 2) (Points.icell P)) (hm : P.length = m) (h0 : 0 < m) (h1 : m ≤ 1000) (hso : Ring.Sorted P) (hk : k < f.ps.length) (hil : (f.ps.getD k zeroP).its.length ≤ 100)
    (hoi : ∀ x ∈ (f.ps.getD k zeroP).its, x.key.size ≤ 1048576 ∧ kOf (Ring.ownerN P (Hash.hashN x.key.data.toList)) (nms f) = oi x.key ∧ oi x.key < f.ps.length) :
    Calls Tryz.prog 119 #[.pointer (some ⟨X, 0, none⟩), .pointer (some ⟨(f.ps.getD k zeroP).pb, 0, none⟩)] w (LfEnd (leftK f.now oi k (f.ps.getD k zeroP).its) w) := by
  obtain ⟨ti, hi, hz0, hz1, hz2⟩ := StrR.info_ex
  have HI := hide hi
  have HZ0 := hide hz0
  have HZ1 := hide hz1
  have HZ2 := hide hz2
  have HVAL : Hid (∀ u, Below w.heap.size w u → Calls Tryz.prog 145 #[.pointer (some ⟨(f.ps.getD k zeroP).hb, 4, none⟩)] u fun e u' => ∃ a cap, e = .returned (.slice a (f.ps.getD k zeroP).its.length cap) ∧ u'.ownsRow u.heap.size 85 5 (.slice a (f.ps.getD k zeroP).its.length cap) (f.ps.getD k zeroP).its.length (Own.flat (f.ps.getD k zeroP).its) ∧ Below u.heap.size u u') := fun u hu => by
    obtain ⟨gl, gf, bm, ls, free, order, cl, vf, D, hp⟩ := ((hf.below hu).pl _ (getD_mem hk)).sh
    have h := _root_.Go.Proofs.YtkodgbalhnbhcaaGreatDoor.Chain.values_any u _ _ gl gf ls free order cl vf hp.mem hp.good (by have := hp.len; omega)
    have e2 : order.length = (f.ps.getD k zeroP).its.length := by rw [← hp.items]; simp [Chain.itemsOf]
    rw [hp.items, e2] at h
    exact h
  have HOWN : Hid (∀ (x : Itm) (u : World), x ∈ (f.ps.getD k zeroP).its → Below w.heap.size w u → Calls Tryz.prog 150 #[.pointer (some ⟨X, 0, none⟩), .slice (some ⟨rg, 0, none⟩) m rc, .string x.key] u fun e u' => e = .returned (.pointer (some ⟨(f.ps.getD (oi x.key) zeroP).pb, 0, none⟩)) ∧ Below u.heap.size u u') := fun x u hx hu => by
    obtain ⟨o1, o2, o3⟩ := hoi x hx
    exact ownerOn_any M X f rg rc m P x.key (oi x.key) u (hf.below hu) hl hs (hr.below hu hr.lt) hm h0 h1 hso (by unfold maxLen; omega) o3 o2
  have HNEQ : Hid (∀ (x : Itm) (u : World), x ∈ (f.ps.getD k zeroP).its → Below w.heap.size w u → (binOp .neq 112 (.pointer (some ⟨(f.ps.getD (oi x.key) zeroP).pb, 0, none⟩)) (.pointer (some ⟨(f.ps.getD k zeroP).pb, 0, none⟩))).run Tryz.prog u = .ok (.bool (decide (oi x.key ≠ k))) u) := fun x u hx hu => neq_place (hf.below hu) (hoi x hx).2.2 hk
  have HXC : Hid (∀ u, Below w.heap.size w u → u.cell? ⟨X, 0, none⟩ = some (.int .i64 f.now) ∧ u.cell? ⟨X, 7, none⟩ = some (.slice (some ⟨rg, 0, none⟩) m rc)) := fun u hu => by
    have h := (hf.below hu).box.cells
    exact ⟨h.1, by rw [← h7]; exact h.2.2.2.2.2.2.2.1⟩
  have b0 := (hf.pl _ (getD_mem hk)).box.cells.1
  have HST := hide (fun j hj => left_step f.now oi k (f.ps.getD k zeroP).its j hj)
  have HLL := hide (fun j => left_len f.now oi k ((f.ps.getD k zeroP).its.take j))
  have HMEM : Hid (∀ j, j < (f.ps.getD k zeroP).its.length → (f.ps.getD k zeroP).its.getD j zero ∈ (f.ps.getD k zeroP).its) := fun j hj => it_mem hj
  have hmix : Tryz.prog.follows .mixedOrders = true := by kernel_rfl
  generalize hpe : f.ps.getD k zeroP = p at *
  generalize f.now = now at *
  obtain ⟨K, hK⟩ : ∃ K, K = leftK now oi k p.its := ⟨_, rfl⟩
  rw [← hK]
  have HKE := hide hK
  clear hf hr hm h0 h1 hso hoi hs h7 hK hi hz0 hz1 hz2
  go_enter Tryz.func119, Tryz.ntmps119
  go_wp2_with fail
  refine (unhide HVAL _ (Below.refl _ _)).mono ?_
  rintro e w1 ⟨ia, ic, rfl, ho1, hb1⟩
  have IT1 := hide ho1
  have B1 := hide hb1
  have hz1 := hb1.size
  clear ho1 hb1 HVAL
  have hmix := hide hmix
  have hpl := block_lt_of_cell b0
  generalize hn : p.its.length = n at *
  go_wp2_with fail
  go_loopw [5, 16] (fun v iv wr => ∃ j : Nat, j ≤ n ∧ iv = .int .i64 (j : Int) ∧ Hid (wr.ownsRow w1.heap.size 9 1 v (leftK now oi k (p.its.take j)).length (StringsW.flat (leftK now oi k (p.its.take j)))) ∧ Hid (Below w1.heap.size w1 wr)) (fun _ iv _ => n - (intOf iv).toNat)
  case atStart => exact ⟨0, Nat.zero_le _, rfl, hide (World.ownsRow_nil _ _ _ _), hide (Below.refl _ _)⟩
  case round =>
    obtain ⟨j, hj, rfl, hown, hbel⟩ := hrel
    have hzr := (unhide hbel).size
    by_cases hlt : j < n
    case neg =>
      obtain rfl : j = n := by omega
      rw [← hn, List.take_length, ← unhide HKE] at hown
      obtain ⟨a, cap, rfl⟩ := own_slice (unhide hown)
      have BF := hide ((unhide B1).trans ((unhide hbel).mono (unhide B1).size))
      go_wp2
      go_ret
      exact ⟨a, cap, rfl, own_le (unhide hown) hz1, unhide BF⟩
    have BQ := hide ((unhide B1).trans ((unhide hbel).mono (unhide B1).size))
    have hmx := unhide HMEM j hlt
    have hst := hide (unhide HST j hlt)
    have hll : (leftK now oi k (p.its.take j)).length ≤ 100 := by have := unhide HLL j; rw [List.length_take] at this; omega
    obtain ⟨g, cap, hva, hg, hrow⟩ := Keep.Row.of_owns (unhide IT1) (by omega)
    simp only [Value.slice.injEq, true_and] at hva
    obtain ⟨rfl, rfl⟩ := hva
    have hrow2 := hrow.keep (Keeps.of_below (S := []) (unhide hbel) (fun _ h1 _ => h1)) (by simp)
    rw [← hn] at hrow2
    obtain ⟨e0, e1, e2, e3, e4⟩ := Shelf.row_at hrow2 (by omega : j < p.its.length)
    clear hrow hrow2
    generalize p.its.getD j zero = it at e0 e1 e2 e3 e4 hmx hst
    have hOW := fun u (hb : Below w.heap.size w u) => unhide HOWN it u hmx hb
    have hNE := fun u (hb : Below w.heap.size w u) => unhide HNEQ it u hmx hb
    clear hmx
    generalize leftK now oi k (p.its.take j) = L at hown hst hll
    generalize (f.ps.getD (oi it.key) zeroP).pb = ob at hOW hNE
    generalize oi it.key = o at hNE hst
    have HOW := hide hOW
    have HNE := hide hNE
    clear hOW hNE
    go_wp2_with fail
    have i0 : (wr.alloc (.cells #[.string it.key, .int .i64 it.flags, .string it.data, .int .i64 it.upto, .int .i64 it.token] 85)).cell? ⟨wr.heap.size, 0, none⟩ = some (.string it.key) := by rw [World.cell?_alloc_new]; rfl
    have i1 : (wr.alloc (.cells #[.string it.key, .int .i64 it.flags, .string it.data, .int .i64 it.upto, .int .i64 it.token] 85)).cell? ⟨wr.heap.size, 1, none⟩ = some (.int .i64 it.flags) := by rw [World.cell?_alloc_new]; rfl
    have i2 : (wr.alloc (.cells #[.string it.key, .int .i64 it.flags, .string it.data, .int .i64 it.upto, .int .i64 it.token] 85)).cell? ⟨wr.heap.size, 2, none⟩ = some (.string it.data) := by rw [World.cell?_alloc_new]; rfl
    have i3 : (wr.alloc (.cells #[.string it.key, .int .i64 it.flags, .string it.data, .int .i64 it.upto, .int .i64 it.token] 85)).cell? ⟨wr.heap.size, 3, none⟩ = some (.int .i64 it.upto) := by rw [World.cell?_alloc_new]; rfl
    have i4 : (wr.alloc (.cells #[.string it.key, .int .i64 it.flags, .string it.data, .int .i64 it.upto, .int .i64 it.token] 85)).cell? ⟨wr.heap.size, 4, none⟩ = some (.int .i64 it.token) := by rw [World.cell?_alloc_new]; rfl
    have OU := hide ((unhide hown).alloc (.cells #[.string it.key, .int .i64 it.flags, .string it.data, .int .i64 it.upto, .int .i64 it.token] 85))
    have BU := hide ((unhide hbel).alloc hzr (.cells #[.string it.key, .int .i64 it.flags, .string it.data, .int .i64 it.upto, .int .i64 it.token] 85))
    have hzU : wr.heap.size < (wr.alloc (.cells #[.string it.key, .int .i64 it.flags, .string it.data, .int .i64 it.upto, .int .i64 it.token] 85)).heap.size := by simp
    generalize wr.alloc (.cells #[.string it.key, .int .i64 it.flags, .string it.data, .int .i64 it.upto, .int .i64 it.token] 85) = U at i0 i1 i2 i3 i4 OU BU hzU ⊢
    clear e0 e1 e2 e3 e4 hown hbel BQ
    generalize wr.heap.size = ib at i0 i1 i2 i3 i4 hzU hzr ⊢
    have BW := hide ((unhide B1).trans ((unhide BU).mono (unhide B1).size))
    obtain ⟨x0, x7⟩ := unhide HXC U (unhide BW)
    have I0 := hide i0
    have cI := fun d os => Calls.regrown_of (Shelf.isOld_any it now (Go.Sort.grow (redrawn U d) os))
    have cO := fun d os => Calls.regrown_of (unhide HOW (Go.Sort.grow (redrawn U d) os) ((unhide BW).trans ((below_regrown U d os).mono (unhide BW).size)))
    have i0 := cell_regrown i0
    have i1 := cell_regrown i1
    have i2 := cell_regrown i2
    have i3 := cell_regrown i3
    have i4 := cell_regrown i4
    have x0 := cell_regrown x0
    have x7 := cell_regrown x7
    cases ho : oldB it now
    case true =>
      rw [ho] at cI hst
      have HE : Hid (leftK now oi k (p.its.take (j + 1)) = L) := hide (by rw [unhide hst]; simp)
      clear hst ho cO
      refine wp_region_quiet_below (unhide hmix) (by kernel_rfl) ?_
      repeat (go_big_quiet_step (exact cI _ _))
      refine wpQuiet_nil ?_
      intro _ hw'
      obtain ⟨⟨dq, osq⟩, hw''⟩ := hw'
      subst hw''
      have hbu := below_regrown U dq osq
      clear i0 i1 i2 i3 i4 x0 x7 cI
      generalize (Go.Sort.grow (redrawn U dq) osq) = u at hbu ⊢
      have OU := hide (own_below (unhide OU) hbu (Nat.le_refl _))
      have BU := hide ((unhide BU).trans (hbu.mono (unhide BU).size))
      clear hbu
      go_wp2
      go_roundw
      case rel => exact ⟨j + 1, by omega, by go_num, by rw [unhide HE]; exact OU, BU⟩
      case measure => simp [intOf]; omega
    rw [ho] at cI hst
    have hnq := fun d os => unhide HNE (Go.Sort.grow (redrawn U d) os) ((unhide BW).trans ((below_regrown U d os).mono (unhide BW).size))
    by_cases hok : o = k
    · rw [show decide (o ≠ k) = false by simp [hok]] at hst hnq
      have HE : Hid (leftK now oi k (p.its.take (j + 1)) = L) := hide (by rw [unhide hst]; simp)
      clear hst ho hok
      refine wp_region_quiet_below (unhide hmix) (by kernel_rfl) ?_
      iterate 6 (go_big_quiet_step (exact cI _ _))
      clear cI
      repeat (go_big_quiet_step (exact cO _ _))
      refine wpQuiet_nil ?_
      intro _ hw'
      obtain ⟨⟨dq, osq⟩, hw''⟩ := hw'
      subst hw''
      have hbu := below_regrown U dq osq
      clear i0 i1 i2 i3 i4 x0 x7 cO hnq
      generalize (Go.Sort.grow (redrawn U dq) osq) = u at hbu ⊢
      have OU := hide (own_below (unhide OU) hbu (Nat.le_refl _))
      have BU := hide ((unhide BU).trans (hbu.mono (unhide BU).size))
      clear hbu
      go_wp2
      go_roundw
      case rel => exact ⟨j + 1, by omega, by go_num, by rw [unhide HE]; exact OU, BU⟩
      case measure => simp [intOf]; omega
    · rw [show decide (o ≠ k) = true by simp [hok]] at hst hnq
      have HE : Hid (leftK now oi k (p.its.take (j + 1)) = L ++ [it.key]) := hide (by rw [unhide hst]; simp)
      clear hst ho hok
      refine wp_region_quiet_below (unhide hmix) (by kernel_rfl) ?_
      iterate 6 (go_big_quiet_step (exact cI _ _))
      clear cI
      repeat (go_big_quiet_step (exact cO _ _))
      refine wpQuiet_nil ?_
      intro _ hw'
      obtain ⟨⟨dq, osq⟩, hw''⟩ := hw'
      subst hw''
      have hbu := below_regrown U dq osq
      clear i0 i1 i2 i3 i4 x0 x7 cO hnq
      generalize (Go.Sort.grow (redrawn U dq) osq) = u at hbu ⊢
      have OU := hide (own_below (unhide OU) hbu (Nat.le_refl _))
      have BU := hide ((unhide BU).trans (hbu.mono (unhide BU).size))
      have i0 : u.cell? ⟨ib, 0, none⟩ = some (.string it.key) := (hbu.cell (p := ⟨ib, 0, none⟩) hzU).trans (unhide I0)
      have hzu : w1.heap.size ≤ u.heap.size := (unhide BU).size
      clear hbu
      go_wp2_with (at_builtin; go_loud (refine wpList_append_own _ rfl _ _ 47 rfl w1.heap.size 9 ti _ 1 16 Tryz.underlying47 (unhide HI) (unhide HZ0) (unhide HZ1) (unhide HZ2) rfl (by decide) _ _ _ rfl ((unhide OU).alloc _) ⟨u.heap.size, 0, none⟩ 1 1 [.string it.key] rfl rfl (cell_one_new _ _ _) (StringsW.news_one _) ?c3 ?c4 ?c5 ?_))
      case c3 => unfold maxLen; omega
      case c4 => omega
      case c5 => simp; omega
      intro v' we hown' hgrow _
      have O4 : Hid (we.ownsRow w1.heap.size 9 1 v' (L ++ [it.key]).length (StringsW.flat (L ++ [it.key]))) := StringsW.own_snoc hown' rfl
      have C4 := hide (((unhide BU).alloc hzu _).grown hgrow (by simp; omega) (own_block (unhide OU)))
      clear hown' hgrow
      go_wp2
      go_roundw
      case rel => exact ⟨j + 1, by omega, by go_num, by rw [unhide HE]; exact O4, C4⟩
      case measure => simp [intOf]; omega
end Fleet
end Go.Proofs.YtkodgbalhnbhcaaGreatDoor
/-
  The program's (*fleet).allMoved: nothing is left anywhere.
-/
namespace Go.Proofs.YtkodgbalhnbhcaaGreatDoor
namespace Fleet
open Go.RowKit Base Store Items OwnR Keep Clus Marks Plc
set_option linter.unusedVariables false

/-- Nothing is left at the first j places. -/
def movedK (now : Int) (oi : ByteArray → Nat) (ps : List Pc) (j : Nat) : Prop := ∀ k, k < j → leftK now oi k (ps.getD k zeroP).its = []
/-- How (*fleet).allMoved ends. -/
def AmEnd (now : Int) (oi : ByteArray → Nat) (ps : List Pc) (w : World) (e : Ending) (w' : World) : Prop := ∃ b, e = .returned (.bool b) ∧ (b = true ↔ movedK now oi ps ps.length) ∧ Below w.heap.size w w'

set_option maxRecDepth 10000 in
set_option maxHeartbeats 4000000 in
theorem allMoved_any (M X : Nat) (f : Fl) (rg rc m : Nat) (P : List Points.D) (oi : ByteArray → Nat) (w : World) (hf : FleetAt w M X f) (hpos : 0 < f.ps.length) (hl : f.ps.length ≤ 1000) (hs : Rising ((nms f).map toL)) (h7 : f.v7 = .slice (some ⟨rg, 0, none⟩) m rc)
    (hr : RowAt w rg 129 (m * 2) (Points.icell P)) (hm : P.length = m) (h0 : 0 < m) (h1 : m ≤ 1000) (hso : Ring.Sorted P) (hil : ∀ p ∈ f.ps, p.its.length ≤ 100)
    (hoi : ∀ p ∈ f.ps, ∀ x ∈ p.its, x.key.size ≤ 1048576 ∧ kOf (Ring.ownerN P (Hash.hashN x.key.data.toList)) (nms f) = oi x.key ∧ oi x.key < f.ps.length) :
    Calls Tryz.prog 88 #[.pointer (some ⟨X, 0, none⟩)] w (AmEnd f.now oi f.ps w) := by
  have HLA : Hid (∀ k u, k < f.ps.length → Below w.heap.size w u → Calls Tryz.prog 119 #[.pointer (some ⟨X, 0, none⟩), .pointer (some ⟨(f.ps.getD k zeroP).pb, 0, none⟩)] u (LfEnd (leftK f.now oi k (f.ps.getD k zeroP).its) u)) := fun k u hk hu =>
    leftAt_any M X f k rg rc m P oi u (hf.below hu) hl hs h7 (hr.below hu hr.lt) hm h0 h1 hso hk (hil _ (getD_mem hk)) (hoi _ (getD_mem hk))
  obtain ⟨g, hrr, hgl, hc⟩ := hf.head hpos
  have x8 := hf.box.cells.2.2.2.2.2.2.2.2
  rw [hrr] at x8
  have HROW : Hid (∀ k u, k < f.ps.length → Below w.heap.size w u → u.cell? ⟨g, k, none⟩ = some (.pointer (some ⟨(f.ps.getD k zeroP).pb, 0, none⟩))) := fun k u hk hu => by
    have hrow := (hf.below hu).row
    rw [hrr] at hrow
    exact own_cells hrow (by show (f.ps.map ptr)[k]? = _; rw [List.getElem?_map, List.getElem?_eq_getElem hk, getD_at hk]; rfl)
  have HLL : Hid (∀ k, k < f.ps.length → (leftK f.now oi k (f.ps.getD k zeroP).its).length ≤ 100) := fun k hk => Nat.le_trans (left_len _ _ _ _) (hil _ (getD_mem hk))
  generalize hnow : f.now = now at *
  generalize hps : f.ps = ps at *
  generalize hn : ps.length = n at *
  have HN := hide hn
  clear hf hr hm h0 h1 hso hoi hs h7 hil hc hrr hn hps hnow
  go_enter Tryz.func88, Tryz.ntmps88
  go_wp2_with fail
  go_loopw [10] (fun iv wr => ∃ j : Nat, j ≤ n ∧ iv = .int .i64 (j : Int) ∧ Hid (movedK now oi ps j) ∧ Hid (Below w.heap.size w wr)) (fun iv _ => n - (intOf iv).toNat)
  case atStart => exact ⟨0, Nat.zero_le _, rfl, hide (fun k hk => absurd hk (Nat.not_lt_zero _)), hide (Below.refl _ _)⟩
  case round =>
    obtain ⟨j, hj, rfl, hmk, hbel⟩ := hrel
    by_cases hlt : j < n
    case neg =>
      obtain rfl : j = n := by omega
      go_wp2
      go_ret
      exact ⟨true, rfl, ⟨fun _ => by rw [unhide HN]; exact unhide hmk, fun _ => rfl⟩, unhide hbel⟩
    have r0 := unhide HROW j wr hlt (unhide hbel)
    have HC := hide (unhide HLA j wr hlt (unhide hbel))
    have hll := unhide HLL j hlt
    have HNX : Hid (leftK now oi j (ps.getD j zeroP).its = [] → movedK now oi ps (j + 1)) := fun h k hk => if e : k = j then e ▸ h else unhide hmk k (by omega)
    have HNO : Hid (¬ leftK now oi j (ps.getD j zeroP).its = [] → ¬ movedK now oi ps ps.length) := fun h hm => h (hm j (by rw [unhide HN]; exact hlt))
    generalize ps.getD j zeroP = q at r0 HC hll HNX HNO
    generalize leftK now oi j q.its = L at HC hll HNX HNO
    go_wp2_with fail
    refine (unhide HC).mono ?_
    rintro e w1 ⟨a, cap, rfl, ho, hb1⟩
    have B1 := hide ((unhide hbel).trans (hb1.mono (unhide hbel).size))
    clear ho hb1 HC
    cases hL : L with
    | nil =>
      have HM := hide (unhide HNX hL)
      subst hL
      go_wp2
      go_roundw
      case rel => exact ⟨j + 1, by omega, by go_num, HM, B1⟩
      case measure => simp [intOf]; omega
    | cons x r =>
      have HM := hide (unhide HNO (by rw [hL]; simp))
      have hlp : 0 < L.length := by rw [hL]; simp
      clear hL
      generalize L.length = ll at hlp hll
      go_wp2
      go_ret
      exact ⟨false, rfl, ⟨fun h => (by cases h), fun h => absurd h (unhide HM)⟩, unhide B1⟩
end Fleet
end Go.Proofs.YtkodgbalhnbhcaaGreatDoor
/-
  The program's (*fleet).dropOld: in every place what is old goes.
-/
namespace Go.Proofs.YtkodgbalhnbhcaaGreatDoor
namespace Fleet
open Go.RowKit Base Store Items OwnR Keep Clus Marks Plc
set_option linter.unusedVariables false

/-- The first k places have let go what is old; the others are as they were. -/
def DropTo (ps : List Pc) (now : Int) (k : Nat) (qs : List Pc) : Prop :=
  qs.length = ps.length ∧ ∀ i, i < ps.length → (i < k → ∃ S, qs.getD i zeroP = upd (ps.getD i zeroP) S (ps.getD i zeroP).lim (ps.getD i zeroP).nx (ps.getD i zeroP).lost (keepB (ps.getD i zeroP).its now)) ∧ (k ≤ i → qs.getD i zeroP = ps.getD i zeroP)
theorem drop_start (ps : List Pc) (now : Int) : DropTo ps now 0 ps := ⟨rfl, fun i hi => ⟨fun h => by omega, fun _ => rfl⟩⟩
theorem DropTo.step {ps qs : List Pc} {now : Int} {k : Nat} {S : List Nat} (h : DropTo ps now k qs) (hk : k < ps.length) :
    DropTo ps now (k + 1) (qs.set k (upd (qs.getD k zeroP) S (qs.getD k zeroP).lim (qs.getD k zeroP).nx (qs.getD k zeroP).lost (keepB (qs.getD k zeroP).its now))) := by
  obtain ⟨h1, h2⟩ := h
  have hq : qs.getD k zeroP = ps.getD k zeroP := (h2 k hk).2 (Nat.le_refl _)
  refine ⟨by rw [List.length_set, h1], fun i hi => ?_⟩
  have hg : (qs.set k (upd (qs.getD k zeroP) S (qs.getD k zeroP).lim (qs.getD k zeroP).nx (qs.getD k zeroP).lost (keepB (qs.getD k zeroP).its now))).getD i zeroP = if i = k then upd (qs.getD k zeroP) S (qs.getD k zeroP).lim (qs.getD k zeroP).nx (qs.getD k zeroP).lost (keepB (qs.getD k zeroP).its now) else qs.getD i zeroP := by
    simp only [List.getD_eq_getElem?_getD]
    by_cases e : i = k
    · subst e; rw [List.getElem?_set_self (by omega)]; simp
    · rw [List.getElem?_set_ne (fun e' => e e'.symm), if_neg e]
  rw [hg]
  by_cases e : i = k
  · subst e
    rw [if_pos rfl, hq]
    exact ⟨fun _ => ⟨S, rfl⟩, fun h => by omega⟩
  · rw [if_neg e]
    exact ⟨fun h => (h2 i hi).1 (by omega), fun h => (h2 i hi).2 (by omega)⟩
/-- How (*fleet).dropOld ends. -/
def DrEnd (M X : Nat) (f : Fl) (w : World) (e : Ending) (w' : World) : Prop := ∃ qs, e = .returned (.tuple #[]) ∧ FleetAt w' M X { f with ps := qs } ∧ DropTo f.ps f.now f.ps.length qs ∧ Kp M X w w'

set_option maxRecDepth 10000 in
set_option maxHeartbeats 2000000 in
theorem dropOld_any (M X : Nat) (f : Fl) (w : World) (hf : FleetAt w M X f) (hpos : 0 < f.ps.length) (hl : f.ps.length ≤ 1000) (hi : ∀ p ∈ f.ps, p.its.length ≤ 100) (hM : M ≤ w.heap.size) :
    Calls Tryz.prog 89 #[.pointer (some ⟨X, 0, none⟩)] w (DrEnd M X f w) := by
  obtain ⟨g, hr, hgl, hc⟩ := hf.head hpos
  have HF := hide hf
  have HI := hide (fun k (hk : k < f.ps.length) => hi _ (getD_mem hk))
  have x8 := hf.box.cells.2.2.2.2.2.2.2.2
  rw [hr] at x8
  have HR := hide hr
  generalize hn : f.ps.length = n at *
  have HN := hide hn
  clear hf hc hi hr hn
  go_enter Tryz.func89, Tryz.ntmps89
  go_wp2_with fail
  go_loopw [9] (fun iv wr => ∃ (k : Nat) (qs : List Pc), k ≤ n ∧ iv = .int .i64 (k : Int) ∧ Hid (FleetAt wr M X { f with ps := qs }) ∧ Hid (DropTo f.ps f.now k qs) ∧ Hid (Kp M X w wr)) (fun iv _ => n - (intOf iv).toNat)
  case atStart => exact ⟨0, f.ps, Nat.zero_le _, rfl, HF, hide (drop_start _ _), hide (Kp.refl _ _ _)⟩
  case round =>
    obtain ⟨k, qs, hk, rfl, hfa, hdr, hkp⟩ := hrel
    by_cases hlt : k < n
    · have hkf : k < f.ps.length := by rw [unhide HN]; exact hlt
      have hql : qs.length = f.ps.length := (unhide hdr).1
      have hkq : k < qs.length := by omega
      have hqe : qs.getD k zeroP = f.ps.getD k zeroP := ((unhide hdr).2 k hkf).2 (Nat.le_refl _)
      have hil : (qs.getD k zeroP).its.length ≤ 100 := by rw [hqe]; exact unhide HI k hlt
      have hrow := (unhide hfa).row
      have hrv : rowV { f with ps := qs } = .slice (some ⟨g, 0, none⟩) n f.cap := by
        have := unhide HR
        unfold rowV at this ⊢
        rw [show ({ f with ps := qs } : Fl).ps.length = qs.length from rfl, hql]; rw [unhide HN] at this ⊢; exact this
      rw [hrv] at hrow
      have r0 : wr.cell? ⟨g, k, none⟩ = some (.pointer (some ⟨(qs.getD k zeroP).pb, 0, none⟩)) := by
        have hl' : ({ f with ps := qs } : Fl).ps.length = n := by show qs.length = n; rw [hql]; exact unhide HN
        rw [hl'] at hrow
        exact own_cells hrow (by show (qs.map ptr)[k]? = _; rw [List.getElem?_map, List.getElem?_eq_getElem hkq, getD_at hkq]; rfl)
      have hpc := (unhide hfa).pl _ (getD_mem hkq)
      obtain ⟨b0, b1⟩ := hpc.box.cells
      have n0 := (unhide hfa).box.cells.1
      have hMr : M ≤ wr.heap.size := Nat.le_trans hM (unhide hkp).size
      have HDS : Hid (∀ u, Below wr.heap.size wr u → Calls Tryz.prog 120 #[.pointer (some ⟨(qs.getD k zeroP).hb, 0, none⟩), .int .i64 f.now] u fun e u' => ∃ v, e = .returned (.int .i64 v) ∧ _root_.Go.Proofs.YtkodgbalhnbhcaaGreatDoor.Shelf.Step u u' (qs.getD k zeroP).hb (qs.getD k zeroP).S (qs.getD k zeroP).lim (qs.getD k zeroP).nx (qs.getD k zeroP).lost (keepB (qs.getD k zeroP).its f.now)) := fun u hu =>
        (_root_.Go.Proofs.YtkodgbalhnbhcaaGreatDoor.Shelf.dropOld_shelf u _ _ _ _ _ _ f.now (hpc.sh.below hu) hil).mono (fun e u' ⟨he, hs⟩ => ⟨_, he, hs⟩)
      have HST := hide (fun u u' (hu : Below wr.heap.size wr u) h => ((unhide hfa).below hu).step (k := k) (w' := u') hkq (lim := (qs.getD k zeroP).lim) (nx := (qs.getD k zeroP).nx) (lost := (qs.getD k zeroP).lost) (its := keepB (qs.getD k zeroP).its f.now) (Nat.le_trans hMr hu.size) h)
      have HDN := hide (fun S => (unhide hdr).step (S := S) hkf)
      clear hpc hrow hrv hqe hql hkq hil hkf
      dsimp only at r0 b0 n0 HDS HST HDN
      generalize hpp : qs.getD k zeroP = p at r0 b0 HDS HST HDN
      have hpl : p.pb < wr.heap.size := block_lt_of_cell b0
      clear hpp b1
      go_wp2_with fail
      go_region_with (go_at_call 120; refine (unhide HDS _ ((Below.refl _ _).drew)).mono ?_; rintro e w1 ⟨v, rfl, hst⟩; have HS1 := hide hst; clear hst)
      all_goals
        obtain ⟨S', hfn, hkn⟩ := unhide HST _ _ ((Below.refl _ _).drew) (unhide HS1)
        have FN := hide hfn
        have KN := hide (((unhide hkp).trans (Kp.of_below ((Below.refl _ _).drew) hMr)).trans hkn)
        have DN := hide (unhide HDN S')
        clear hfn hkn HS1
        go_wp2
        go_roundw
        case rel => exact ⟨k + 1, _, by omega, by go_num, FN, DN, KN⟩
        case measure => simp [intOf]; omega
    · obtain rfl : k = n := by omega
      go_wp2
      go_end0
      exact ⟨qs, rfl, unhide hfa, by rw [unhide HN]; exact unhide hdr, unhide hkp⟩
end Fleet
end Go.Proofs.YtkodgbalhnbhcaaGreatDoor
/-
  A row of places of which some go: plainly, and in memory. No Go function is spoken of here.
-/
namespace Go.Proofs.YtkodgbalhnbhcaaGreatDoor
namespace Fleet
open Go.RowKit Base Store Items OwnR Keep Clus Marks Plc
set_option linter.unusedVariables false

theorem row_cut {w : World} {e : TypeId} {g n cap i : Nat} {xs : List Value} (h : Keep.Row w e 1 g n cap xs) (hi : i ≤ n) : Keep.Row w e 1 g i cap (xs.take i) := by
  obtain ⟨h1, cur, hh, h2, h3, h4, h5⟩ := h
  refine ⟨by rw [List.length_take]; omega, cur, hh, by omega, h3, h4, ?_⟩
  rw [← h5, List.take_take]
  congr 1
  omega
theorem row_high {w : World} {e : TypeId} {g i cap o : Nat} {ys : List Value} (h : Keep.Row w e 1 g i cap ys) (ho : i ≤ o) (v : Value) : Keep.Row (w.setCell ⟨g, o, none⟩ v) e 1 g i cap ys := by
  obtain ⟨h1, cur, hh, h2, h3, h4, h5⟩ := h
  refine ⟨h1, cur.setIfInBounds o v, heap_setCell_same w g o cur e v hh, h2, h3, by simpa using h4, ?_⟩
  rw [Array.toList_setIfInBounds, List.take_set_of_le (by omega)]
  exact h5
theorem row_clear {e : TypeId} {g i cap : Nat} {ys : List Value} : ∀ (vs : List Value) (o : Nat) (w : World), Keep.Row w e 1 g i cap ys → i ≤ o → Keep.Row (w.setCells g o vs) e 1 g i cap ys
  | [], _, _, h, _ => h
  | v :: r, o, w, h, ho => row_clear r (o + 1) _ (row_high h ho v) (by omega)
theorem keeps_clear {a : World} {g : Nat} : ∀ (vs : List Value) (o : Nat) (w : World), Keeps [g] a w → Keeps [g] a (w.setCells g o vs)
  | [], _, _, h => h
  | v :: r, o, w, h => keeps_clear r (o + 1) _ (h.setCell (p := ⟨g, o, none⟩) (.inl (by simp)) v)
theorem row_put {w : World} {e : TypeId} {g n cap i : Nat} {xs : List Value} (h : Keep.Row w e 1 g n cap xs) (v : Value) : Keep.Row (w.setCell ⟨g, i, none⟩ v) e 1 g n cap (xs.set i v) := by
  obtain ⟨h1, cur, hh, h2, h3, h4, h5⟩ := h
  refine ⟨by simpa using h1, cur.setIfInBounds i v, heap_setCell_same w g i cur e v hh, h2, h3, by simpa using h4, ?_⟩
  rw [Array.toList_setIfInBounds, ← h5, List.take_set]

def kept (del : Pc → Bool) (ps : List Pc) : List Pc := ps.filter (fun p => !del p)
/-- How far it has come: j places are seen, i of them stay. -/
structure KI (ps : List Pc) (del : Pc → Bool) (i j : Nat) (xs : List Value) : Prop where
  len : xs.length = ps.length
  lt : i < j
  le : j ≤ ps.length
  many : i = (kept del (ps.take j)).length
  low : xs.take i = (kept del (ps.take j)).map ptr
  high : xs.drop j = (ps.drop j).map ptr
theorem kept_succ {ps : List Pc} {del : Pc → Bool} {j : Nat} (hj : j < ps.length) : kept del (ps.take (j + 1)) = kept del (ps.take j) ++ (if del (ps.getD j zeroP) = true then [] else [ps.getD j zeroP]) := by
  rw [List.take_succ_eq_append_getElem hj, getD_at hj]
  unfold kept
  rw [List.filter_append]
  congr 1
  cases h : del ps[j] <;> simp [h]
theorem kept_all {ps : List Pc} {del : Pc → Bool} (h : ∀ j, j < ps.length → del (ps.getD j zeroP) = false) : kept del ps = ps := by
  unfold kept
  rw [List.filter_eq_self]
  intro p hp
  obtain ⟨j, hj, rfl⟩ := List.getElem_of_mem hp
  have := h j hj
  rw [getD_at hj] at this
  simp [this]
theorem KI.start {ps : List Pc} {del : Pc → Bool} {k : Nat} (hk : k < ps.length) (hd : del (ps.getD k zeroP) = true) (hn : ∀ j, j < k → del (ps.getD j zeroP) = false) : KI ps del k (k + 1) (ps.map ptr) := by
  have e : kept del (ps.take (k + 1)) = ps.take k := by
    rw [kept_succ hk, if_pos hd, List.append_nil]
    refine kept_all (fun j hj => ?_)
    rw [List.length_take] at hj
    have : (ps.take k).getD j zeroP = ps.getD j zeroP := by simp only [List.getD_eq_getElem?_getD]; rw [List.getElem?_take_of_lt (by omega)]
    rw [this]; exact hn j (by omega)
  exact ⟨by simp, by omega, by omega, by rw [e, List.length_take]; omega, by rw [e, List.map_take], by rw [List.map_drop]⟩
theorem KI.cell {ps : List Pc} {del : Pc → Bool} {i j : Nat} {xs : List Value} (h : KI ps del i j xs) (hj : j < ps.length) : xs[j]? = some (.pointer (some ⟨(ps.getD j zeroP).pb, 0, none⟩)) := by
  have e := congrArg (fun l => l[0]?) h.high
  simp only [List.getElem?_drop, List.getElem?_map, Nat.add_zero] at e
  rw [e, List.getElem?_eq_getElem hj, getD_at hj]
  rfl
theorem KI.keep {ps : List Pc} {del : Pc → Bool} {i j : Nat} {xs : List Value} (h : KI ps del i j xs) (hj : j < ps.length) (hd : del (ps.getD j zeroP) = false) : KI ps del (i + 1) (j + 1) (xs.set i (.pointer (some ⟨(ps.getD j zeroP).pb, 0, none⟩))) := by
  have e : kept del (ps.take (j + 1)) = kept del (ps.take j) ++ [ps.getD j zeroP] := by rw [kept_succ hj, if_neg (by rw [hd]; simp)]
  have hl := h.len
  have hi := h.lt
  refine ⟨by rw [List.length_set]; exact hl, by omega, by omega, by rw [e, List.length_append, ← h.many]; rfl, ?_, ?_⟩
  · rw [e, List.map_append, ← h.low, List.take_succ_eq_append_getElem (by rw [List.length_set]; omega), List.take_set_of_le (Nat.le_refl _)]
    congr 1
    simp [ptr]
  · rw [List.drop_set_of_lt (by omega), ← List.drop_drop, h.high, ← List.map_drop, List.drop_drop]
theorem KI.skip {ps : List Pc} {del : Pc → Bool} {i j : Nat} {xs : List Value} (h : KI ps del i j xs) (hj : j < ps.length) (hd : del (ps.getD j zeroP) = true) : KI ps del i (j + 1) xs := by
  have e : kept del (ps.take (j + 1)) = kept del (ps.take j) := by rw [kept_succ hj, if_pos hd, List.append_nil]
  exact ⟨h.len, by have := h.lt; omega, by omega, by rw [e]; exact h.many, by rw [e]; exact h.low, by rw [← List.drop_drop, h.high, ← List.map_drop, List.drop_drop]⟩
theorem KI.done {ps : List Pc} {del : Pc → Bool} {i : Nat} {xs : List Value} (h : KI ps del i ps.length xs) : i = (kept del ps).length ∧ xs.take i = (kept del ps).map ptr := by
  have h1 := h.many
  have h2 := h.low
  rw [List.take_length] at h1 h2
  exact ⟨h1, h2⟩
/-- The cluster at work with fewer places. -/
theorem FleetAt.fewer {w w' : World} {M X g : Nat} {f : Fl} (hf : FleetAt w M X f) (hg : f.a = some ⟨g, 0, none⟩) (hM : M ≤ g) (del : Pc → Bool) (hk : Keeps [g] w w') (hr : Keep.Row w' 112 1 g (kept del f.ps).length f.cap ((kept del f.ps).map ptr)) :
    FleetAt (w'.setCell ⟨X, 8, none⟩ (.slice (some ⟨g, 0, none⟩) (kept del f.ps).length f.cap)) M X { f with ps := kept del f.ps } := by
  have hxm := hf.xm
  have hXg : X ≠ g := by omega
  have hsub : ∀ p ∈ kept del f.ps, p ∈ f.ps := fun p hp => (List.mem_filter.1 hp).1
  have hkk : Keeps [X, g] w (w'.setCell ⟨X, 8, none⟩ (.slice (some ⟨g, 0, none⟩) (kept del f.ps).length f.cap)) := (hk.mono (fun x hx => List.mem_cons_of_mem _ hx)).setCell (p := ⟨X, 8, none⟩) (.inl (by simp)) _
  have hrv : rowV { f with ps := kept del f.ps } = .slice (some ⟨g, 0, none⟩) (kept del f.ps).length f.cap := by unfold rowV; rw [hg]
  have hfar : ∀ p ∈ f.ps, ∀ b ∈ bks p, b ≠ g := fun p hp b hb e => hf.far p hp b hb (by unfold rowV; rw [hg, e]; rfl)
  have hbox : FB w' X f := hf.box.of_block (hk.block X hf.box.lt (by simpa using hXg))
  refine ⟨?_, ?_, ?_, ?_, ?_, ?_, hxm⟩
  · have := hbox.set8 f.a f.cap (kept del f.ps)
    rw [hg] at this
    have e : ({ f with a := some ⟨g, 0, none⟩, cap := f.cap, ps := kept del f.ps } : Fl) = { f with ps := kept del f.ps } := by rw [← hg]
    rw [e] at this
    exact this
  · rw [hrv]
    exact (hr.setOther (p := ⟨X, 8, none⟩) (fun e => hXg e.symm) _).owns hM
  · intro p hp
    refine (hf.pl p (hsub p hp)).keep hkk (fun b hb hm => ?_)
    simp only [List.mem_cons, List.not_mem_nil, or_false] at hm
    rcases hm with e | e
    · have := hf.lo p (hsub p hp) b hb; omega
    · exact hfar p (hsub p hp) b hb e
  · exact fun p hp b hb => hf.lo p (hsub p hp) b hb
  · exact hf.apart.sublist List.filter_sublist
  · intro p hp b hb e
    rw [hrv] at e
    have : g = b := by simpa [Value.ownBlock] using e
    exact hfar p (hsub p hp) b hb this.symm
end Fleet
end Go.Proofs.YtkodgbalhnbhcaaGreatDoor
