/-
  The program's (*fleet).leftAt: the keys of a place that do not belong there on the ring that is gone to.
-/
import Derived.Test.YtjgfedmgmfpapaaGreatDoorZ23
import Derived.Test.YtjgfedmgmfpapaaGreatDoorZ4
import Derived.Test.YtjgfedmgmfpapaaGreatDoorZ6
import Derived.LaidEqlPtr
import Derived.Lib.QuietBelow
import Derived.BigQuiet
import Derived.Test.YtjgfedmgmfpapaaGreatDoorZ21
import Derived.Test.YtjgfedmgmfpapaaGreatDoorZ18
import Derived.Deep.QuietTactic
import Derived.Test.YtjgfedmgmfpapaaGreatDoorZ1
import Derived.WalkLawsBesides
namespace Go.Proofs.YtjgfedmgmfpapaaGreatDoor
namespace Fleet
open Go.RowKit Base Store Items OwnR Keep Clus Marks Plc
set_option linter.unusedVariables false

/-- The keys that are left at place k: not old, and another one's. -/
def leftK (now : Int) (oi : ByteArray → Nat) (k : Nat) (its : List Itm) : List ByteArray := (its.filter (fun x => !oldB x now && decide (oi x.key ≠ k))).map (·.key)
theorem left_step (now : Int) (oi : ByteArray → Nat) (k : Nat) (its : List Itm) (j : Nat) (hj : j < its.length) : leftK now oi k (its.take (j + 1)) = leftK now oi k (its.take j) ++ (if (!oldB (its.getD j zero) now && decide (oi (its.getD j zero).key ≠ k)) = true then [(its.getD j zero).key] else []) := by
  have e : its.getD j zero = its[j] := by simp [hj]
  rw [List.take_succ_eq_append_getElem hj, e]
  unfold leftK
  rw [List.filter_append, List.map_append]
  congr 1
  simp only [List.filter_cons, List.filter_nil]
  split <;> rfl
theorem left_len (now : Int) (oi : ByteArray → Nat) (k : Nat) (its : List Itm) : (leftK now oi k its).length ≤ its.length := by
  unfold leftK
  rw [List.length_map]; exact List.length_filter_le _ _
theorem it_mem {its : List Itm} {j : Nat} (hj : j < its.length) : its.getD j zero ∈ its := by
  have e : its.getD j zero = its[j] := by simp [hj]
  rw [e]; exact List.getElem_mem hj
/-- How (*fleet).leftAt ends. -/
def LfEnd (keys : List ByteArray) (w : World) (e : Ending) (w' : World) : Prop := ∃ a cap, e = .returned (.slice a keys.length cap) ∧ w'.ownsRow w.heap.size 9 1 (.slice a keys.length cap) keys.length (StringsW.flat keys) ∧ Below w.heap.size w w'
theorem info_place : ∃ j, Tryz.prog.info? 129 = some j ∧ j.size ≠ 0 := by
  have h : (Tryz.prog.info? 129).map (·.size) = some 2 := by kernel_rfl
  obtain ⟨j, hj, hz⟩ := Option.map_eq_some_iff.1 h
  exact ⟨j, hj, by omega⟩
theorem neq_place {w : World} {M X : Nat} {f : Fl} (h : FleetAt w M X f) {i k : Nat} (hi : i < f.ps.length) (hk : k < f.ps.length) :
    (binOp .neq 125 (.pointer (some ⟨(f.ps.getD i zeroP).pb, 0, none⟩)) (.pointer (some ⟨(f.ps.getD k zeroP).pb, 0, none⟩))).run Tryz.prog w = .ok (.bool (decide (i ≠ k))) w := by
  obtain ⟨j, hj, hz⟩ := info_place
  by_cases e : i = k
  · subst e
    rw [Lib.run_neq_ptr_same w _ Tryz.underlying125 hj]
    simp
  · have hb1 := (h.pl _ (getD_mem hi)).box
    have hb2 := (h.pl _ (getD_mem hk)).box
    have hne : (⟨(f.ps.getD i zeroP).pb, 0, none⟩ : Addr) ≠ ⟨(f.ps.getD k zeroP).pb, 0, none⟩ := by
      intro e2
      simp only [Addr.mk.injEq, and_true] at e2
      have := apart_at h.apart hi hk e (f.ps.getD i zeroP).pb (by rw [← getD_at hi]; exact List.mem_cons_self)
      rw [e2, ← getD_at hk] at this
      exact this List.mem_cons_self
    have hq : ∀ d : Nat, (Op.equalIn (d + 1) 125 (.pointer (some ⟨(f.ps.getD i zeroP).pb, 0, none⟩)) (.pointer (some ⟨(f.ps.getD k zeroP).pb, 0, none⟩))).run Tryz.prog w = .ok false w := fun d => by
      simp [-List.getD_eq_getElem?_getD, Op.equalIn, run_underlying Tryz.underlying125, sizeOf, typeInfo, hj, hz, run_sameAddr_other w hne hb1 hb2]
    simp only [binOp]
    simp [-List.getD_eq_getElem?_getD, Op.equal, Op.maxDepth, hq 9999, e]

theorem own_slice {w : World} {B : Nat} {t : TypeId} {sz n : Nat} {v : Value} {xs : List Value} (h : w.ownsRow B t sz v n xs) : ∃ a cap, v = .slice a n cap := by
  rcases h.2 with ⟨h, h0⟩ | ⟨g, cap', cur, hv, _⟩
  · exact ⟨_, _, by rw [h, h0]⟩
  · exact ⟨_, _, hv⟩
set_option maxRecDepth 10000 in
set_option maxHeartbeats 4000000 in
theorem leftAt_any (M X : Nat) (f : Fl) (k rg rc m : Nat) (P : List Points.D) (oi : ByteArray → Nat) (w : World) (hf : FleetAt w M X f) (hl : f.ps.length ≤ 1000) (hs : Rising ((nms f).map toL)) (h7 : f.v7 = .slice (some ⟨rg, 0, none⟩) m rc)
    (hr : RowAt w rg 148 (m * 2) (Points.icell P)) (hm : P.length = m) (h0 : 0 < m) (h1 : m ≤ 1000) (hso : Ring.Sorted P) (hk : k < f.ps.length) (hil : (f.ps.getD k zeroP).its.length ≤ 100)
    (hoi : ∀ x ∈ (f.ps.getD k zeroP).its, x.key.size ≤ 1048576 ∧ kOf (Ring.ownerN P (Hash.hashN x.key.data.toList)) (nms f) = oi x.key ∧ oi x.key < f.ps.length) :
    Calls Tryz.prog 103 #[.pointer (some ⟨X, 0, none⟩), .pointer (some ⟨(f.ps.getD k zeroP).pb, 0, none⟩)] w (LfEnd (leftK f.now oi k (f.ps.getD k zeroP).its) w) := by
  obtain ⟨ti, hi, hz0, hz1, hz2⟩ := StrR.info_ex
  have HI := hide hi
  have HZ0 := hide hz0
  have HZ1 := hide hz1
  have HZ2 := hide hz2
  have HVAL : Hid (∀ u, Below w.heap.size w u → Calls Tryz.prog 122 #[.pointer (some ⟨(f.ps.getD k zeroP).hb, 4, none⟩)] u fun e u' => ∃ a cap, e = .returned (.slice a (f.ps.getD k zeroP).its.length cap) ∧ u'.ownsRow u.heap.size 94 5 (.slice a (f.ps.getD k zeroP).its.length cap) (f.ps.getD k zeroP).its.length (Own.flat (f.ps.getD k zeroP).its) ∧ Below u.heap.size u u') := fun u hu => by
    obtain ⟨gl, gf, bm, ls, free, order, cl, vf, D, hp⟩ := ((hf.below hu).pl _ (getD_mem hk)).sh
    have h := _root_.Go.Proofs.YtjgfedmgmfpapaaGreatDoor.Chain.values_any u _ _ gl gf ls free order cl vf hp.mem hp.good (by have := hp.len; omega)
    have e2 : order.length = (f.ps.getD k zeroP).its.length := by rw [← hp.items]; simp [Chain.itemsOf]
    rw [hp.items, e2] at h
    exact h
  have HOWN : Hid (∀ (x : Itm) (u : World), x ∈ (f.ps.getD k zeroP).its → Below w.heap.size w u → Calls Tryz.prog 115 #[.pointer (some ⟨X, 0, none⟩), .slice (some ⟨rg, 0, none⟩) m rc, .string x.key] u fun e u' => e = .returned (.pointer (some ⟨(f.ps.getD (oi x.key) zeroP).pb, 0, none⟩)) ∧ Below u.heap.size u u') := fun x u hx hu => by
    obtain ⟨o1, o2, o3⟩ := hoi x hx
    exact ownerOn_any M X f rg rc m P x.key (oi x.key) u (hf.below hu) hl hs (hr.below hu hr.lt) hm h0 h1 hso (by unfold maxLen; omega) o3 o2
  have HNEQ : Hid (∀ (x : Itm) (u : World), x ∈ (f.ps.getD k zeroP).its → Below w.heap.size w u → (binOp .neq 125 (.pointer (some ⟨(f.ps.getD (oi x.key) zeroP).pb, 0, none⟩)) (.pointer (some ⟨(f.ps.getD k zeroP).pb, 0, none⟩))).run Tryz.prog u = .ok (.bool (decide (oi x.key ≠ k))) u) := fun x u hx hu => neq_place (hf.below hu) (hoi x hx).2.2 hk
  have HXC : Hid (∀ u, Below w.heap.size w u → u.cell? ⟨X, 0, none⟩ = some (.int .i64 f.now) ∧ u.cell? ⟨X, 7, none⟩ = some (.slice (some ⟨rg, 0, none⟩) m rc)) := fun u hu => by
    have h := (hf.below hu).box.cells
    exact ⟨h.1, by rw [← h7]; exact h.2.2.2.2.2.2.2.1⟩
  have b0 := (hf.pl _ (getD_mem hk)).box.cells.1
  have HST := hide (fun j hj => left_step f.now oi k (f.ps.getD k zeroP).its j hj)
  have HLL := hide (fun j => left_len f.now oi k ((f.ps.getD k zeroP).its.take j))
  have HMEM : Hid (∀ j, j < (f.ps.getD k zeroP).its.length → (f.ps.getD k zeroP).its.getD j zero ∈ (f.ps.getD k zeroP).its) := fun j hj => it_mem hj
  have hmix : Tryz.prog.follows .mixedOrders = true := by kernel_rfl
  generalize hpe : f.ps.getD k zeroP = p at *
  generalize f.now = now at *
  obtain ⟨K, hK⟩ : ∃ K, K = leftK now oi k p.its := ⟨_, rfl⟩
  rw [← hK]
  have HKE := hide hK
  clear hf hr hm h0 h1 hso hoi hs h7 hK hi hz0 hz1 hz2
  go_enter Tryz.func103, Tryz.ntmps103
  go_wp2_with fail
  refine (unhide HVAL _ (Below.refl _ _)).mono ?_
  rintro e w1 ⟨ia, ic, rfl, ho1, hb1⟩
  have IT1 := hide ho1
  have B1 := hide hb1
  have hz1 := hb1.size
  clear ho1 hb1 HVAL
  have hmix := hide hmix
  have hpl := block_lt_of_cell b0
  generalize hn : p.its.length = n at *
  go_wp2_with fail
  go_loopw [5, 16] (fun v iv wr => ∃ j : Nat, j ≤ n ∧ iv = .int .i64 (j : Int) ∧ Hid (wr.ownsRow w1.heap.size 9 1 v (leftK now oi k (p.its.take j)).length (StringsW.flat (leftK now oi k (p.its.take j)))) ∧ Hid (Below w1.heap.size w1 wr)) (fun _ iv _ => n - (intOf iv).toNat)
  case atStart => exact ⟨0, Nat.zero_le _, rfl, hide (World.ownsRow_nil _ _ _ _), hide (Below.refl _ _)⟩
  case round =>
    obtain ⟨j, hj, rfl, hown, hbel⟩ := hrel
    have hzr := (unhide hbel).size
    by_cases hlt : j < n
    case neg =>
      obtain rfl : j = n := by omega
      rw [← hn, List.take_length, ← unhide HKE] at hown
      obtain ⟨a, cap, rfl⟩ := own_slice (unhide hown)
      have BF := hide ((unhide B1).trans ((unhide hbel).mono (unhide B1).size))
      go_wp2
      go_ret
      exact ⟨a, cap, rfl, own_le (unhide hown) hz1, unhide BF⟩
    have BQ := hide ((unhide B1).trans ((unhide hbel).mono (unhide B1).size))
    have hmx := unhide HMEM j hlt
    have hst := hide (unhide HST j hlt)
    have hll : (leftK now oi k (p.its.take j)).length ≤ 100 := by have := unhide HLL j; rw [List.length_take] at this; omega
    obtain ⟨g, cap, hva, hg, hrow⟩ := Keep.Row.of_owns (unhide IT1) (by omega)
    simp only [Value.slice.injEq, true_and] at hva
    obtain ⟨rfl, rfl⟩ := hva
    have hrow2 := hrow.keep (Keeps.of_below (S := []) (unhide hbel) (fun _ h1 _ => h1)) (by simp)
    rw [← hn] at hrow2
    obtain ⟨e0, e1, e2, e3, e4⟩ := Shelf.row_at hrow2 (by omega : j < p.its.length)
    clear hrow hrow2
    generalize p.its.getD j zero = it at e0 e1 e2 e3 e4 hmx hst
    have hOW := fun u (hb : Below w.heap.size w u) => unhide HOWN it u hmx hb
    have hNE := fun u (hb : Below w.heap.size w u) => unhide HNEQ it u hmx hb
    clear hmx
    generalize leftK now oi k (p.its.take j) = L at hown hst hll
    generalize (f.ps.getD (oi it.key) zeroP).pb = ob at hOW hNE
    generalize oi it.key = o at hNE hst
    have HOW := hide hOW
    have HNE := hide hNE
    clear hOW hNE
    go_wp2_with fail
    have i0 : (wr.alloc (.cells #[.string it.key, .int .i64 it.flags, .string it.data, .int .i64 it.upto, .int .i64 it.token] 94)).cell? ⟨wr.heap.size, 0, none⟩ = some (.string it.key) := by rw [World.cell?_alloc_new]; rfl
    have i1 : (wr.alloc (.cells #[.string it.key, .int .i64 it.flags, .string it.data, .int .i64 it.upto, .int .i64 it.token] 94)).cell? ⟨wr.heap.size, 1, none⟩ = some (.int .i64 it.flags) := by rw [World.cell?_alloc_new]; rfl
    have i2 : (wr.alloc (.cells #[.string it.key, .int .i64 it.flags, .string it.data, .int .i64 it.upto, .int .i64 it.token] 94)).cell? ⟨wr.heap.size, 2, none⟩ = some (.string it.data) := by rw [World.cell?_alloc_new]; rfl
    have i3 : (wr.alloc (.cells #[.string it.key, .int .i64 it.flags, .string it.data, .int .i64 it.upto, .int .i64 it.token] 94)).cell? ⟨wr.heap.size, 3, none⟩ = some (.int .i64 it.upto) := by rw [World.cell?_alloc_new]; rfl
    have i4 : (wr.alloc (.cells #[.string it.key, .int .i64 it.flags, .string it.data, .int .i64 it.upto, .int .i64 it.token] 94)).cell? ⟨wr.heap.size, 4, none⟩ = some (.int .i64 it.token) := by rw [World.cell?_alloc_new]; rfl
    have OU := hide ((unhide hown).alloc (.cells #[.string it.key, .int .i64 it.flags, .string it.data, .int .i64 it.upto, .int .i64 it.token] 94))
    have BU := hide ((unhide hbel).alloc hzr (.cells #[.string it.key, .int .i64 it.flags, .string it.data, .int .i64 it.upto, .int .i64 it.token] 94))
    have hzU : wr.heap.size < (wr.alloc (.cells #[.string it.key, .int .i64 it.flags, .string it.data, .int .i64 it.upto, .int .i64 it.token] 94)).heap.size := by simp
    generalize wr.alloc (.cells #[.string it.key, .int .i64 it.flags, .string it.data, .int .i64 it.upto, .int .i64 it.token] 94) = U at i0 i1 i2 i3 i4 OU BU hzU ⊢
    clear e0 e1 e2 e3 e4 hown hbel BQ
    generalize wr.heap.size = ib at i0 i1 i2 i3 i4 hzU hzr ⊢
    have BW := hide ((unhide B1).trans ((unhide BU).mono (unhide B1).size))
    obtain ⟨x0, x7⟩ := unhide HXC U (unhide BW)
    have I0 := hide i0
    have cI := fun d os => Calls.regrown_of (Shelf.isOld_any it now (Go.Sort.grow (redrawn U d) os))
    have cO := fun d os => Calls.regrown_of (unhide HOW (Go.Sort.grow (redrawn U d) os) ((unhide BW).trans ((below_regrown U d os).mono (unhide BW).size)))
    have i0 := cell_regrown i0
    have i1 := cell_regrown i1
    have i2 := cell_regrown i2
    have i3 := cell_regrown i3
    have i4 := cell_regrown i4
    have x0 := cell_regrown x0
    have x7 := cell_regrown x7
    cases ho : oldB it now
    case true =>
      rw [ho] at cI hst
      have HE : Hid (leftK now oi k (p.its.take (j + 1)) = L) := hide (by rw [unhide hst]; simp)
      clear hst ho cO
      refine wp_region_quiet_below (unhide hmix) (by kernel_rfl) ?_
      repeat (go_big_quiet_step (exact cI _ _))
      refine wpQuiet_nil ?_
      intro _ hw'
      obtain ⟨⟨dq, osq⟩, hw''⟩ := hw'
      subst hw''
      have hbu := below_regrown U dq osq
      clear i0 i1 i2 i3 i4 x0 x7 cI
      generalize (Go.Sort.grow (redrawn U dq) osq) = u at hbu ⊢
      have OU := hide (own_below (unhide OU) hbu (Nat.le_refl _))
      have BU := hide ((unhide BU).trans (hbu.mono (unhide BU).size))
      clear hbu
      go_wp2
      go_roundw
      case rel => exact ⟨j + 1, by omega, by go_num, by rw [unhide HE]; exact OU, BU⟩
      case measure => simp [intOf]; omega
    rw [ho] at cI hst
    have hnq := fun d os => unhide HNE (Go.Sort.grow (redrawn U d) os) ((unhide BW).trans ((below_regrown U d os).mono (unhide BW).size))
    by_cases hok : o = k
    · rw [show decide (o ≠ k) = false by simp [hok]] at hst hnq
      have HE : Hid (leftK now oi k (p.its.take (j + 1)) = L) := hide (by rw [unhide hst]; simp)
      clear hst ho hok
      refine wp_region_quiet_below (unhide hmix) (by kernel_rfl) ?_
      iterate 6 (go_big_quiet_step (exact cI _ _))
      clear cI
      repeat (go_big_quiet_step (exact cO _ _))
      refine wpQuiet_nil ?_
      intro _ hw'
      obtain ⟨⟨dq, osq⟩, hw''⟩ := hw'
      subst hw''
      have hbu := below_regrown U dq osq
      clear i0 i1 i2 i3 i4 x0 x7 cO hnq
      generalize (Go.Sort.grow (redrawn U dq) osq) = u at hbu ⊢
      have OU := hide (own_below (unhide OU) hbu (Nat.le_refl _))
      have BU := hide ((unhide BU).trans (hbu.mono (unhide BU).size))
      clear hbu
      go_wp2
      go_roundw
      case rel => exact ⟨j + 1, by omega, by go_num, by rw [unhide HE]; exact OU, BU⟩
      case measure => simp [intOf]; omega
    · rw [show decide (o ≠ k) = true by simp [hok]] at hst hnq
      have HE : Hid (leftK now oi k (p.its.take (j + 1)) = L ++ [it.key]) := hide (by rw [unhide hst]; simp)
      clear hst ho hok
      refine wp_region_quiet_below (unhide hmix) (by kernel_rfl) ?_
      iterate 6 (go_big_quiet_step (exact cI _ _))
      clear cI
      repeat (go_big_quiet_step (exact cO _ _))
      refine wpQuiet_nil ?_
      intro _ hw'
      obtain ⟨⟨dq, osq⟩, hw''⟩ := hw'
      subst hw''
      have hbu := below_regrown U dq osq
      clear i0 i1 i2 i3 i4 x0 x7 cO hnq
      generalize (Go.Sort.grow (redrawn U dq) osq) = u at hbu ⊢
      have OU := hide (own_below (unhide OU) hbu (Nat.le_refl _))
      have BU := hide ((unhide BU).trans (hbu.mono (unhide BU).size))
      have i0 : u.cell? ⟨ib, 0, none⟩ = some (.string it.key) := (hbu.cell (p := ⟨ib, 0, none⟩) hzU).trans (unhide I0)
      have hzu : w1.heap.size ≤ u.heap.size := (unhide BU).size
      clear hbu
      go_wp2_with (at_builtin; go_loud (refine wpList_append_own _ rfl _ _ 37 rfl w1.heap.size 9 ti _ 1 16 Tryz.underlying37 (unhide HI) (unhide HZ0) (unhide HZ1) (unhide HZ2) rfl (by decide) _ _ _ rfl ((unhide OU).alloc _) ⟨u.heap.size, 0, none⟩ 1 1 [.string it.key] rfl rfl (cell_one_new _ _ _) (StringsW.news_one _) ?c3 ?c4 ?c5 ?_))
      case c3 => unfold maxLen; omega
      case c4 => omega
      case c5 => simp; omega
      intro v' we hown' hgrow _
      have O4 : Hid (we.ownsRow w1.heap.size 9 1 v' (L ++ [it.key]).length (StringsW.flat (L ++ [it.key]))) := StringsW.own_snoc hown' rfl
      have C4 := hide (((unhide BU).alloc hzu _).grown hgrow (by simp; omega) (own_block (unhide OU)))
      clear hown' hgrow
      go_wp2
      go_roundw
      case rel => exact ⟨j + 1, by omega, by go_num, by rw [unhide HE]; exact O4, C4⟩
      case measure => simp [intOf]; omega
end Fleet
end Go.Proofs.YtjgfedmgmfpapaaGreatDoor
/-
  The program's shelf: find; goodNow; what a good store gives.
-/
namespace Go.Proofs.YtjgfedmgmfpapaaGreatDoor
namespace Shelf
open Go.RowKit Base Items Keep Own Chain Store GoodKey
set_option linter.unusedVariables false

theorem kL_kk (x : Itm) : kL x = kk x.key := rfl
theorem good_keys {lim nx : Int} {its : List Itm} (h : gsB lim nx its = true) : its.length ≤ 60 ∧ (∀ x ∈ its, Small x) ∧ (its.map Itm.key).Nodup := by
  unfold gsB at h
  simp only [Bool.and_eq_true, decide_eq_true_eq] at h
  obtain ⟨⟨⟨_, h3⟩, h4⟩, _⟩ := h
  have hg := (goodTo_iff nx its its.length (Nat.le_refl _)).1 h4
  rw [List.take_length] at hg
  refine ⟨by omega, good_small h4, ?_⟩
  have h5 : (its.map kL) = (its.map Itm.key).map kk := by simp [kL_kk]
  have h6 := hg.2.1
  rw [h5] at h6
  exact (List.pairwise_map.1 h6).imp (fun hne e => hne (by rw [e]))

set_option maxRecDepth 10000 in
set_option maxHeartbeats 400000 in
theorem goodNow_any (n : Int) (w : World) : Calls Tryz.prog 72 #[.int .i64 n] w fun e w' => e = .returned (.bool (inB n 0 1000000000)) ∧ w' = w := by
  go_enter Tryz.func72, Tryz.ntmps72
  go_wp2
  all_goals
    go_ret
    refine ⟨ret_bool ?_, rfl⟩
    simp [inB]
    try omega

set_option maxRecDepth 10000 in
set_option maxHeartbeats 1000000 in
theorem find_none (w : World) (hb : Nat) (S : List Nat) (lim nx lost : Int) (its : List Itm) (key : ByteArray) (hs : Shelf w hb S lim nx lost its) (hkey : key.size ≤ maxLen) (hn : atN its key = none) :
    Calls Tryz.prog 202 #[.pointer (some ⟨hb, 0, none⟩), .string key] w fun e w' => e = .returned (findV none) ∧ Below w.heap.size w w' := by
  obtain ⟨gl, gf, bm, ls, free, order, cl, vf, D, hp⟩ := hs
  obtain ⟨c0, c1, c2, c3, c4, c5, c6⟩ := hp.mem.box.cells
  have hlt := hp.mem.box.lt
  have hrun := look_miss (hp.keep ((Keeps.refl [] w).alloc (.cells #[.string ⟨#[]⟩, .int .i64 0, .string ⟨#[]⟩, .int .i64 0, .int .i64 0] 94)) (by simp)) hkey hn
  clear c0 c1 c2 c3 c4 c5 hp hn hkey
  go_enter Tryz.func202, Tryz.ntmps202
  go_wp2
  refine bodyPost_ret (v := .tuple #[.agg #[.string ⟨#[]⟩, .int .i64 0, .string ⟨#[]⟩, .int .i64 0, .int .i64 0], .bool false]) (by simp [results, Tryz.results202, go_sem]; done) rfl ⟨rfl, ?_⟩
  exact bel1 w _

set_option maxRecDepth 10000 in
set_option maxHeartbeats 1000000 in
theorem find_hit (w : World) (hb : Nat) (S : List Nat) (lim nx lost : Int) (its : List Itm) (key : ByteArray) (k : Nat) (hs : Shelf w hb S lim nx lost its) (hkey : key.size ≤ maxLen) (hn : atN its key = some k) :
    Calls Tryz.prog 202 #[.pointer (some ⟨hb, 0, none⟩), .string key] w fun e w' => e = .returned (findV (some (its.getD k zero))) ∧ Below w.heap.size w w' := by
  obtain ⟨gl, gf, bm, ls, free, order, cl, vf, D, hp⟩ := hs
  have hp1 := hp.keep ((Keeps.refl [] w).alloc (.cells #[.string ⟨#[]⟩, .int .i64 0, .string ⟨#[]⟩, .int .i64 0, .int .i64 0] 94)) (by simp)
  obtain ⟨c0, c1, c2, c3, c4, c5, c6⟩ := hp.mem.box.cells
  have hlt := hp.mem.box.lt
  have hgt := Row.lt hp.mem.links
  obtain ⟨p, hrun, ho, hv⟩ := look_hit hp1 hkey hn
  have hpl : p < ls.length := (hp.good.inO p (by rw [ho]; simp)).2
  have hpi : (p : Int) < ls.length := by omega
  obtain ⟨i0, i1, i2, i3, i4⟩ := hp.mem.links.item hpl
  rw [hv] at i0 i1 i2 i3 i4
  generalize its.getD k zero = x at i0 i1 i2 i3 i4
  clear c0 c1 c2 c3 c5 hp hp1 hn hkey ho hv
  go_enter Tryz.func202, Tryz.ntmps202
  go_wp2
  refine bodyPost_ret (v := findV (some x)) (by simp [results, Tryz.results202, go_sem, findV, itemV]; done) rfl ⟨rfl, ?_⟩
  repeat (refine Below.setCell ?_ (by first | (simp; done) | (simp; omega)) _)
  exact bel1 w _

/-- What is found among the items that are not old. -/
theorem find_kept {lim nx : Int} {its : List Itm} {now : Int} {key : ByteArray} (h1 : gsB lim nx its = true) (h2 : inB now 0 1000000000 = true) :
    findB lim nx its now key = (atN (keepB its now) key).map (fun k => (keepB its now).getD k zero) := by
  have hk := (good_keys h1).2.2
  unfold findB
  rw [if_pos h1, if_pos h2]
  cases e : atN (keepB its now) key with
  | some k =>
    obtain ⟨hkl, hkk⟩ := at_split e
    have hmem : (keepB its now).getD k zero ∈ keepB its now := by
      rw [List.getD_eq_getElem?_getD, List.getElem?_eq_getElem hkl]; exact List.getElem_mem _
    simp only [Option.map_some]
    generalize (keepB its now).getD k zero = x at hkk hmem
    obtain ⟨hx, hxo⟩ := List.mem_filter.1 hmem
    obtain ⟨l1, l2, rfl⟩ := List.append_of_mem hx
    rw [← hkk, at_mid hk]
    simp only
    rw [get_mid, if_neg (by simpa using hxo)]
  | none =>
    have hno := at_none e
    cases e2 : atN its key with
    | none => rfl
    | some k =>
      obtain ⟨hkl, hkk⟩ := at_split e2
      have hmem : its.getD k zero ∈ its := by
        rw [List.getD_eq_getElem?_getD, List.getElem?_eq_getElem hkl]; exact List.getElem_mem _
      simp only [Option.map_none]
      cases ho : oldB (its.getD k zero) now
      · exact absurd hkk (hno _ (List.mem_filter.2 ⟨hmem, by rw [ho]; rfl⟩))
      · rfl
end Shelf
end Go.Proofs.YtjgfedmgmfpapaaGreatDoor
/-
  The program's shelf: makeRoom, keep.
-/
namespace Go.Proofs.YtjgfedmgmfpapaaGreatDoor
namespace Shelf
open Go.RowKit Base Items Keep Own Chain Store GoodKey
set_option linter.unusedVariables false

theorem box_set3 {w : World} {hb : Nat} {h : Hd} {vl vf : Value} (hB : Box w hb h vl vf) (c : Int) : Box (w.setCell ⟨hb, 3, none⟩ (.int .i64 c)) hb { h with lost := c } vl vf := by unfold Box at *; simp [World.setCell, Array.getElem?_modify, hB]
theorem box_set1 {w : World} {hb : Nat} {h : Hd} {vl vf : Value} (hB : Box w hb h vl vf) (c : Int) : Box (w.setCell ⟨hb, 1, none⟩ (.int .i64 c)) hb { h with nx := c } vl vf := by unfold Box at *; simp [World.setCell, Array.getElem?_modify, hB]
theorem setLost {w : World} {hb : Nat} {S : List Nat} {lim nx lost : Int} {its : List Itm} (h : Shelf w hb S lim nx lost its) (c : Int) : Shelf (w.setCell ⟨hb, 3, none⟩ (.int .i64 c)) hb S lim nx c its := by
  obtain ⟨gl, gf, bm, ls, free, order, cl, vf, D, hp⟩ := h
  exact ⟨gl, gf, bm, ls, free, order, cl, vf, D, mem_set hp.mem (box_set3 hp.mem.box c), hp.good, hp.items, hp.len, hp.own.setCell hp.m1 _, hp.map, hp.m1, hp.m2, hp.m3, hp.blocks, hp.keys, hp.small⟩
theorem setNext {w : World} {hb : Nat} {S : List Nat} {lim nx lost : Int} {its : List Itm} (h : Shelf w hb S lim nx lost its) (c : Int) : Shelf (w.setCell ⟨hb, 1, none⟩ (.int .i64 c)) hb S lim c lost its := by
  obtain ⟨gl, gf, bm, ls, free, order, cl, vf, D, hp⟩ := h
  exact ⟨gl, gf, bm, ls, free, order, cl, vf, D, mem_set hp.mem (box_set1 hp.mem.box c), hp.good, hp.items, hp.len, hp.own.setCell hp.m1 _, hp.map, hp.m1, hp.m2, hp.m3, hp.blocks, hp.keys, hp.small⟩
theorem shelf_in {w : World} {hb : Nat} {S : List Nat} {lim nx lost : Int} {its : List Itm} (h : Shelf w hb S lim nx lost its) : hb ∈ S ∧ hb < w.heap.size := by
  obtain ⟨gl, gf, bm, ls, free, order, cl, vf, D, hp⟩ := h
  exact ⟨by rw [hp.blocks]; simp, hp.mem.box.lt⟩
/-- What can be read of a shelf. -/
theorem shelf_reads {w : World} {hb : Nat} {S : List Nat} {lim nx lost : Int} {its : List Itm} (h : Shelf w hb S lim nx lost its) :
    w.cell? ⟨hb, 0, none⟩ = some (.int .i64 lim) ∧ w.cell? ⟨hb, 1, none⟩ = some (.int .i64 nx) ∧ w.cell? ⟨hb, 2, none⟩ = some (.int .i64 (total its)) ∧ w.cell? ⟨hb, 3, none⟩ = some (.int .i64 lost) ∧
    (∀ o, w.frozen? ⟨hb, o, none⟩ = false) ∧ ∃ bm, w.cell? ⟨hb, 6, none⟩ = some (.map (some bm)) ∧ ∀ w', Keeps [] w w' → ∀ ty, (Builtin.len_ #[138] ty #[.map (some bm)]).run Tryz.prog w' = .ok (.int .i64 (its.length : Nat)) w' := by
  obtain ⟨gl, gf, bm, ls, free, order, cl, vf, D, hp⟩ := h
  obtain ⟨c0, c1, c2, c3, c4, c5, c6⟩ := hp.mem.box.cells
  refine ⟨c0, c1, c2, c3, hp.mem.box.frozen, bm, c6, fun w' hk ty => ?_⟩
  have h1 := (hk.map hp.own (by simp)).len Tryz.underlying138 ty
  rw [hp.map.size, ← items_len ls order, hp.items] at h1
  exact h1
theorem drop_keys {its : List Itm} (h : (its.map Itm.key).Nodup) {k : Nat} (hk : k < its.length) : atN (its.drop k) (its.getD k zero).key = some 0 ∧ (its.drop k).eraseIdx 0 = its.drop (k + 1) := by
  have e : its.drop k = [] ++ its.getD k zero :: its.drop (k + 1) := by
    rw [List.drop_eq_getElem_cons hk, List.getD_eq_getElem?_getD, List.getElem?_eq_getElem hk]; rfl
  refine ⟨?_, ?_⟩
  · have hs : ((its.drop k).map Itm.key).Nodup := h.sublist ((List.drop_sublist k its).map _)
    rw [e] at hs ⊢
    exact at_mid hs
  · rw [e]; rfl

theorem step_more {w w1 w2 : World} {hb : Nat} {S : List Nat} {lim nx lost : Int} {its : List Itm} (h : Step w w1 hb S lim nx lost its) (hk : Keeps [] w1 w2) : Step w w2 hb S lim nx lost its := by
  obtain ⟨S', hs, hS, hk1⟩ := h
  exact ⟨S', hs.keep hk (by simp), hS, hk1.trans hk (by simp)⟩
theorem step_lost {w w1 : World} {hb : Nat} {S : List Nat} {lim nx lost : Int} {its : List Itm} (h : Step w w1 hb S lim nx lost its) (hin : hb ∈ S) (c : Int) : Step w (w1.setCell ⟨hb, 3, none⟩ (.int .i64 c)) hb S lim nx c its := by
  obtain ⟨S', hs, hS, hk1⟩ := h
  exact ⟨S', setLost hs c, hS, hk1.setCell (.inl hin) _⟩
theorem step_next {w w1 : World} {hb : Nat} {S : List Nat} {lim nx lost : Int} {its : List Itm} (h : Step w w1 hb S lim nx lost its) (hin : hb ∈ S) (c : Int) : Step w (w1.setCell ⟨hb, 1, none⟩ (.int .i64 c)) hb S lim c lost its := by
  obtain ⟨S', hs, hS, hk1⟩ := h
  exact ⟨S', setNext hs c, hS, hk1.setCell (.inl hin) _⟩

set_option maxRecDepth 10000 in
set_option maxHeartbeats 2000000 in
theorem makeRoom_shelf (w : World) (hb : Nat) (S : List Nat) (lim nx lost : Int) (its : List Itm) (hs : Shelf w hb S lim nx lost its) (hl : its.length ≤ 100) (hlo : 0 ≤ lost ∧ lost ≤ 1000) :
    Calls Tryz.prog 172 #[.pointer (some ⟨hb, 0, none⟩)] w fun e w' => e = .returned (.tuple #[]) ∧ Step w w' hb S lim nx (lost + trimN lim its) (its.drop (trimN lim its)) := by
  have HS := hide hs
  have hks := hide (shelf_keys hs)
  have hSl := hide hs.lt
  obtain ⟨gl, gf, bm, ls, free, order, cl, vf, D, hp⟩ := hs
  have hol : order.length = its.length := by rw [← hp.items, items_len]
  have hval := fun w' (hk : Below w.heap.size w w') => values_any w' hb _ gl gf ls free order cl vf (hp.keep (Keeps.of_below (S := []) hk (fun _ h1 _ => h1)) (by simp)).mem hp.good (by have := hp.len; omega)
  rw [hp.items, hol] at hval
  have HV := hide hval
  clear hval hp
  go_enter Tryz.func172, Tryz.ntmps172
  go_wp2_with fail
  refine (unhide HV _ (Below.refl _ _)).mono ?_
  rintro e w1 ⟨va, vc, rfl, hown, hb1⟩
  have HO := hide hown
  have HB1 := hide hb1
  have HS1 := hide ((unhide HS).below hb1)
  clear hown hb1 HV
  have hz1 : w.heap.size ≤ w1.heap.size := (unhide HB1).size
  go_wp2_with fail
  go_loopw [9] (fun i wr => ∃ (k : Nat), k ≤ its.length ∧ i = .int .i64 k ∧ Hid (trimN lim its = k + trimN lim (its.drop k)) ∧ Hid (Step w1 wr hb S lim nx (lost + k) (its.drop k))) (fun i _ => its.length - (intOf i).toNat)
  case atStart => exact ⟨0, Nat.zero_le _, rfl, hide (by simp), hide (by simpa using step_refl (unhide HS1))⟩
  case round =>
    obtain ⟨k, hk, rfl, htr, hst⟩ := hrel
    have hfin : Hid (∀ n, trimN lim its = n → n = k → Step w wr hb S lim nx (lost + trimN lim its) (its.drop (trimN lim its))) := by
      intro n hn hnk
      have h1 := unhide hst
      rw [hn, hnk]
      exact step_go (Keeps.of_below (unhide HB1) (fun k h1 _ => h1)) (fun b hb' => .inl hb') h1
    obtain ⟨Sk, hsk, hSk, hkk⟩ := unhide hst
    by_cases hlt : k < its.length
    · obtain ⟨g, cap, hva, hg, hrow⟩ := Row.of_owns (unhide HO) (by omega)
      simp only [Value.slice.injEq, true_and] at hva
      obtain ⟨rfl, rfl⟩ := hva
      have hgS : g ∉ S := fun hm => by have := unhide hSl g hm; omega
      have hrow2 := hrow.keep hkk hgS
      obtain ⟨c0, c1, c2, c3, c4⟩ := row_at hrow2 hlt
      obtain ⟨r0, r1, r2, r3, rf, bm', r6, hlen⟩ := shelf_reads hsk
      have hst' := hide (@trimN_step lim its k hlt)
      have hfit := hide (@trimN_fit lim (its.drop k))
      have hkd := hide (drop_keys (unhide hks).1 hlt)
      have hsm := hide (small_getD (unhide hks).2 k hlt)
      have htb := total_small (its := its.drop k) (fun x hx => (unhide hks).2 x (List.mem_of_mem_drop hx)) (by simp; omega)
      have hdl : (its.drop k).length = its.length - k := by simp
      have hwl := (shelf_in hsk).2
      have HSK := hide hsk
      have HSS := hide hSk
      have HKK := hide hkk
      clear hrow hrow2 hsk hSk hkk hst
      rw [hdl] at hlen
      obtain ⟨nn, hnn⟩ : ∃ nn, its.length - k = nn := ⟨_, rfl⟩
      rw [hnn] at hlen
      have hfb : fitsB lim (its.drop k) = (decide (total (its.drop k) ≤ lim) && decide ((nn : Int) ≤ 60)) := by unfold fitsB; rw [hdl, hnn]
      generalize its.getD k zero = x at c0 c1 c2 c3 c4 hkd hsm
      generalize htt : total (its.drop k) = t at r2 htb hfb
      have hlen2 := hlen _ ((Keeps.refl [] wr).alloc (.cells #[.string x.key, .int .i64 x.flags, .string x.data, .int .i64 x.upto, .int .i64 x.token] 94)).drew
      clear hlen
      by_cases q1 : t ≤ lim
      · by_cases q2 : (nn : Int) ≤ 60
        · have H : Hid (trimN lim its = k) := by
            show trimN lim its = k
            rw [unhide htr, unhide hfit (by rw [hfb, decide_eq_true q1, decide_eq_true q2]; rfl)]; rfl
          have HF := hide (unhide hfin k (unhide H) rfl)
          have d1 : decide (t ≤ lim) = true := decide_eq_true q1
          clear hfin htr hfb
          go_wp2_with fail
          go_region
          go_wp2
          exact bodyPost_ret (v := .tuple #[]) (by simp [results, Tryz.results172, go_sem]) rfl ⟨rfl, step_more (unhide HF) ((Keeps.refl [] wr).alloc _).drew⟩
        · have H := hide (unhide hst' (by rw [hfb, decide_eq_false q2]; simp))
          clear hfin hfb
          go_wp2_with fail
          go_region
          go_wp2_with fail
          refine (take_some _ hb Sk lim nx (lost + k) (its.drop k) x.key 0 ((unhide HSK).keep ((Keeps.refl [] wr).alloc _).drew (by simp)) (by simp; omega) (by have := (unhide hsm).1; unfold maxLen; omega) (unhide hkd).1).mono ?_
          rintro e w3 ⟨rfl, hst3⟩
          rw [(unhide hkd).2] at hst3
          have hst4 := step_go ((unhide HKK).trans (((Keeps.refl [] wr).alloc (.cells #[.string x.key, .int .i64 x.flags, .string x.data, .int .i64 x.upto, .int .i64 x.token] 94)).drew) (by simp)) (unhide HSS) hst3
          have hin := hide (shelf_in (unhide HS)).1
          have HL := hide (step_lost hst4 (unhide hin) (lost + k + 1))
          obtain ⟨S4, hs4, -, -⟩ := hst4
          obtain ⟨y0, y1, y2, y3, yf, bm4, y6, -⟩ := shelf_reads hs4
          clear hst3 hs4 r0 r1 r2 r3 rf r6 hlen2 y0 y1 y2 y6
          go_wp2
          go_roundw
          case rel =>
            refine ⟨k + 1, by omega, by go_num, hide ?_, hide ?_⟩
            · have := unhide htr; have := unhide H; omega
            · have e : lost + ((k + 1 : Nat) : Int) = lost + k + 1 := by omega
              rw [e]; exact unhide HL
          case measure => simp [intOf]; omega
      · have H := hide (unhide hst' (by rw [hfb, decide_eq_false q1]; simp))
        have d1 : decide (t ≤ lim) = false := decide_eq_false q1
        clear hfin hfb
        go_wp2_with fail
        go_region
        go_wp2_with fail
        refine (take_some _ hb Sk lim nx (lost + k) (its.drop k) x.key 0 ((unhide HSK).keep ((Keeps.refl [] wr).alloc _).drew (by simp)) (by simp; omega) (by have := (unhide hsm).1; unfold maxLen; omega) (unhide hkd).1).mono ?_
        rintro e w3 ⟨rfl, hst3⟩
        rw [(unhide hkd).2] at hst3
        have hst4 := step_go ((unhide HKK).trans (((Keeps.refl [] wr).alloc (.cells #[.string x.key, .int .i64 x.flags, .string x.data, .int .i64 x.upto, .int .i64 x.token] 94)).drew) (by simp)) (unhide HSS) hst3
        have hin := hide (shelf_in (unhide HS)).1
        have HL := hide (step_lost hst4 (unhide hin) (lost + k + 1))
        obtain ⟨S4, hs4, -, -⟩ := hst4
        obtain ⟨y0, y1, y2, y3, yf, bm4, y6, -⟩ := shelf_reads hs4
        clear hst3 hs4 r0 r1 r2 r3 rf r6 hlen2 y0 y1 y2 y6
        go_wp2
        go_roundw
        case rel =>
          refine ⟨k + 1, by omega, by go_num, hide ?_, hide ?_⟩
          · have := unhide htr; have := unhide H; omega
          · have e : lost + ((k + 1 : Nat) : Int) = lost + k + 1 := by omega
            rw [e]; exact unhide HL
        case measure => simp [intOf]; omega
    · obtain rfl : k = its.length := by omega
      have H : Hid (trimN lim its = its.length) := by
        have := unhide htr
        rw [List.drop_eq_nil_of_le (Nat.le_refl _)] at this
        exact this
      have HF := hide (unhide hfin _ (unhide H) rfl)
      clear hfin htr hst hsk hSk hkk
      go_wp2
      exact bodyPost_end (v := .tuple #[]) (by simp [results, Tryz.results172, go_sem]) rfl ⟨rfl, unhide HF⟩
end Shelf
end Go.Proofs.YtjgfedmgmfpapaaGreatDoor
/-
  What is thrown where something is full: the variable errFull, and how a call ends by it.
-/
namespace Go.Proofs.YtjgfedmgmfpapaaGreatDoor
namespace Shelf
open Go.RowKit Base Keep
set_option linter.unusedVariables false

def errV (p : Addr) : Value := .iface 267 (.pointer (some p))
def fullP (p : Addr) : List PanicEntry := [{ v := errV p, recovered := false }]
/-- The variable errFull holds an error at p. -/
structure FullIs (w : World) (p : Addr) : Prop where
  cell : w.cell? ⟨0, 0, none⟩ = some (errV p)
  lt : 0 < w.heap.size
theorem FullIs.below {w w' : World} {p : Addr} (h : FullIs w p) (hb : Below w.heap.size w w') : FullIs w' p :=
  ⟨(hb.cell (p := ⟨0, 0, none⟩) h.lt).trans h.cell, Nat.lt_of_lt_of_le h.lt hb.size⟩
theorem FullIs.keep {w w' : World} {p : Addr} {S : List Nat} (h : FullIs w p) (hk : Keeps S w w') (hS : 0 ∉ S) : FullIs w' p :=
  ⟨(World.cell?_of_block (a := ⟨0, 0, none⟩) (hk.block _ h.lt hS)).trans h.cell, Nat.lt_of_lt_of_le h.lt hk.size⟩
theorem lt_of_cell {w : World} {b o : Nat} {v : Value} (h : w.cell? ⟨b, o, none⟩ = some v) : b < w.heap.size := by
  by_cases hb : b < w.heap.size
  · exact hb
  · simp [World.cell?, Array.getElem?_eq_none (Nat.le_of_not_lt hb)] at h
theorem gave {P : Program} {f : Func} {Q : Ending → World → Prop} {a : Act} {w : World} {p : Addr} (h : Q (.panicked (fullP p)) w) (hd : a.defers = [] := by rfl) : bodyPost P f Q (Exit.panic [{ v := .iface 267 (.pointer (some p)), recovered := false }]) a w := by
  exact ⟨hd, h⟩
end Shelf
end Go.Proofs.YtjgfedmgmfpapaaGreatDoor
