/-
  The model's l2Write, incr: bad. (By a program of mine.)
-/
import Derived.Test.YtkdcofmpbmiloaaGreatDoorWriteA
namespace Go.Proofs.YtkdcofmpbmiloaaGreatDoor
namespace Rw
open Go.RowKit Base GoodKey Items Store Own
set_option linter.unusedVariables false

set_option maxRecDepth 10000 in
set_option maxHeartbeats 8000000 in
theorem bad_incr (lim nx : Int) (a : Option Addr) (cap B : Nat) (its : List Itm) (now : Int) (nm : ByteArray) (kb ko kc nk : Nat) (key : ByteArray) (f x n : Int) (dt : ByteArray) (q : Bool) (w : World)
    (hr : Row w B (.slice a its.length cap) its) (hB : B ≤ w.heap.size) (hkb : kb < w.heap.size) (hkc : w.cell? ⟨kb, ko, none⟩ = some (.string key)) (hnk : 0 < nk) (hl : its.length ≤ 60) (hits : ∀ y ∈ its, Shelf.Okx y) (hkey : key.size ≤ 30) (hdt : dt.size ≤ 100)
    (hlim : 0 ≤ lim ∧ lim ≤ 10000) (hnx : 1 ≤ nx ∧ nx ≤ 1000000000) (hnow : 0 ≤ now ∧ now ≤ 1000000000) (hx : 0 ≤ x ∧ x ≤ 1000000000) (hnm : nm.toList = [105, 110, 99, 114]) (k : Nat) (hat : atN its key = some k) (hcb : Count.countB (its.getD k zero).data.data.toList n false = none) :
    Calls Tryz.prog 73 #[.agg #[.int .i64 lim, .int .i64 nx, .slice a its.length cap], .int .i64 now, .agg #[.string nm, .slice (some ⟨kb, ko, none⟩) nk kc, .int .i64 f, .int .i64 x, .int .i64 n, .string dt, .bool q]] w (WEnd (⟨its, nx, 0, Shelf.badT⟩) lim B a w) := by
  have hmix : Tryz.prog.follows .mixedOrders = true := by kernel_rfl
  have s_add : (nm.toList == [97, 100, 100]) = false := by rw [hnm]; decide
  have s_replace : (nm.toList == [114, 101, 112, 108, 97, 99, 101]) = false := by rw [hnm]; decide
  have s_append : (nm.toList == [97, 112, 112, 101, 110, 100]) = false := by rw [hnm]; decide
  have s_prepend : (nm.toList == [112, 114, 101, 112, 101, 110, 100]) = false := by rw [hnm]; decide
  have s_cas : (nm.toList == [99, 97, 115]) = false := by rw [hnm]; decide
  have s_incr : (nm.toList == [105, 110, 99, 114]) = true := by rw [hnm]; decide
  have s_decr : (nm.toList == [100, 101, 99, 114]) = false := by rw [hnm]; decide
  have s_touch : (nm.toList == [116, 111, 117, 99, 104]) = false := by rw [hnm]; decide
  have s_delete : (nm.toList == [100, 101, 108, 101, 116, 101]) = false := by rw [hnm]; decide
  have hai : atI its key = (k : Int) := by unfold atI; rw [hat]
  have hk : k < its.length := atN_lt hat
  have hap : ∀ b, a = some ⟨b, 0, none⟩ → b < w.heap.size := fun b e => by subst e; exact hr.lt.1
  obtain ⟨W, hW⟩ : ∃ W, W = (((w.alloc (.cells #[.int .i64 lim, .int .i64 nx, .slice a its.length cap] 25)).alloc (.cells #[.string nm, .slice (some ⟨kb, ko, none⟩) nk kc, .int .i64 f, .int .i64 x, .int .i64 n, .string dt, .bool q] 28)).alloc (.cells #[.int .i64 0, .int .i64 0, .slice none 0 0] 25)) := ⟨_, rfl⟩
  have hBW : Below w.heap.size w W := by rw [hW]; exact bel3 w _ _ _
  have hzW : W.heap.size = w.heap.size + 1 + 1 + 1 := by rw [hW]; simp
  have hbw : Bw W w.heap.size lim nx (.slice a its.length cap) nm (.slice (some ⟨kb, ko, none⟩) nk kc) f x n dt q := by rw [hW]; exact bw_new w _ _ _ _ _ _ _ _ _ _
  have cC := fun d os => Calls.regrown_of (l2At_row lim nx (.slice a its.length cap) B its key (Go.Sort.grow (redrawn W d) os) (hr.below (hBW.trans ((below_regrown W d os).mono (by omega))) (Nat.le_refl _)) (by unfold maxLen; omega))
  rw [hai] at cC
  have HU := hide (fun w' => Shelf.l2Until_any now x w' hnow hx)
  generalize Shelf.untilR now x = up at HU
  have HW := hide hW
  have HX := hide hbw
  have HR := hide hr
  have HI := hide hits
  have HKC := hide hkc
  have hk0 : (0 : Int) < (nk : Int) := by omega
  obtain ⟨⟨a0, a1, a2⟩, ⟨i0, i1, i2, i3, i4, i5, i6⟩, -, -, -, -⟩ := hbw
  have p0 := cell_regrown a0
  have p1 := cell_regrown a1
  have p2 := cell_regrown a2
  have p3 := cell_regrown i1
  have p4 := cell_regrown ((hBW.cell (p := ⟨kb, ko, none⟩) hkb).trans hkc)
  clear a0 a1 a2 i0 i1 i2 i3 i4 i5 i6 hW hr hits hkc hai hnow hx
  go_enter Tryz.func73, Tryz.ntmps73
  go_wp2_with fail
  rw [← unhide HW]
  refine wp_region_quiet_below hmix (by kernel_rfl) ?_
  repeat (quiet_step (exact cC _ _))
  refine wpQuiet_nil ?_
  intro _ hw'
  obtain ⟨⟨dq, osq⟩, hw''⟩ := hw'
  subst hw''
  have hbq := below_regrown W dq osq
  generalize (Go.Sort.grow (redrawn W dq) osq) = wq at hbq ⊢
  have XC := hide ((unhide HX).below hbq (by omega))
  have BC := hide (hBW.trans (hbq.mono (show w.heap.size ≤ W.heap.size by omega)))
  clear p0 p1 p2 p3 p4 cC HW hBW hbq HX hzW
  have zc := (unhide XC).2.2.2.2.2
  obtain ⟨⟨a0, a1, a2⟩, ⟨i0, i1, i2, i3, i4, i5, i6⟩, -, -, -, -⟩ := unhide XC
  have kc0 := ((unhide BC).cell (p := ⟨kb, ko, none⟩) hkb).trans (unhide HKC)
  have hl1 : w.heap.size + 1 < wq.heap.size := by omega
  have hl2 : kb < wq.heap.size := by omega
  go_wp2_with fail
  go_cut [10] (fun s10 wx => s10 = .pointer (some ⟨wq.heap.size, 0, none⟩) ∧ Hid (Ib wx wq.heap.size ⟨key, f, dt, up, 0⟩) ∧ Hid (Below wq.heap.size wq wx))
  case first =>
    go_region_held3 (fun w' => w'.cell? ⟨w.heap.size + 1, 1, none⟩ = some (.slice (some ⟨kb, ko, none⟩) nk kc) ∧ w'.cell? ⟨w.heap.size + 1, 2, none⟩ = some (.int .i64 f) ∧ w'.cell? ⟨w.heap.size + 1, 5, none⟩ = some (.string dt) ∧ w'.cell? ⟨w.heap.size + 1, 3, none⟩ = some (.int .i64 x) ∧ w'.cell? ⟨kb, ko, none⟩ = some (.string key)) (first | go_keep | (refine ⟨?_, ?_, ?_, ?_, ?_⟩ <;> first | assumption | (simp [*]; done) | (simp; omega))) (first | (go_at_call 86; refine (unhide HU _).mono ?_; rintro e wu ⟨rfl, rfl⟩))
    all_goals
      go_wp2_with fail
      go_meet
      refine ⟨rfl, hide ?_, hide ?_⟩
      · exact ib_new wq ⟨key, f, dt, up, 0⟩
      · exact (bel1 wq _).drew
  case rest =>
  obtain ⟨rfl, I1, B1⟩ := hcut
  have XR := hide ((unhide XC).below (unhide B1) (by omega))
  have BR := hide ((unhide BC).trans ((unhide B1).mono (by omega)))
  have RR := hide ((unhide HR).below (unhide BR) (Nat.le_refl _))
  have zr := (unhide I1).2.2
  clear XC BC HR B1 HU a0 a1 a2 i0 i1 i2 i3 i4 i5 i6 kc0 hl1 hl2
  generalize wq.heap.size = bx at I1 zc zr
  obtain ⟨b, cb, hv⟩ := (unhide RR).has (by omega)
  simp only [Value.slice.injEq] at hv
  obtain ⟨rfl, -, rfl⟩ := hv
  obtain ⟨c0, c1, c2, c3, c4⟩ := (unhide RR).at rfl k hk
  rw [Nat.zero_add] at c0 c1 c2 c3 c4
  have hb1 := (unhide RR).lt.1
  have HOK := hide (unhide HI (its.getD k zero) (by rw [List.getD_eq_getElem?_getD, List.getElem?_eq_getElem hk]; exact List.getElem_mem _))
  have hk1 : (k : Int) < (its.length : Int) := by omega
  have hkk : (0 : Int) ≤ (k : Int) := by omega
  generalize its.getD k zero = O at c0 c1 c2 c3 c4 HOK hcb
  have hcn := fun w' => Count.spec_any O.data n false w' (by have := (unhide HOK).2.1; unfold maxLen; omega)
  rw [hcb] at hcn
  simp only [Count.countV] at hcn
  have HCN := hide hcn
  have HCB := hide hcb
  clear hcb hcn
  have zc1 : w.heap.size < wc.heap.size := by omega
  have zc2 : w.heap.size + 1 < wc.heap.size := by omega
  have zc3 : w.heap.size + 1 + 1 < wc.heap.size := by omega
  obtain ⟨⟨a0, a1, a2⟩, ⟨i0, i1, i2, i3, i4, i5, i6⟩, -, -, -, -⟩ := unhide XR
  go_upto_region 6 with fail
  have X6 := hide ((unhide XR).below (bel1 wc (.cells #[.string O.key, .int .i64 O.flags, .string O.data, .int .i64 O.upto, .int .i64 O.token] 37)) (by omega))
  have I6 := hide ((unhide I1).below (bel1 wc (.cells #[.string O.key, .int .i64 O.flags, .string O.data, .int .i64 O.upto, .int .i64 O.token] 37)) zr)
  have B6 := hide ((unhide BR).alloc (show w.heap.size ≤ wc.heap.size by omega) (.cells #[.string O.key, .int .i64 O.flags, .string O.data, .int .i64 O.upto, .int .i64 O.token] 37))
  have R6 := hide ((unhide RR).below (bel1 wc (.cells #[.string O.key, .int .i64 O.flags, .string O.data, .int .i64 O.upto, .int .i64 O.token] 37)) (Nat.le_refl _))
  have J6 : Hid (Ib (wc.alloc (.cells #[.string O.key, .int .i64 O.flags, .string O.data, .int .i64 O.upto, .int .i64 O.token] 37)) wc.heap.size O) := by
    show Ib _ _ _
    skip
    exact ib_new wc _
  have z6 : (wc.alloc (.cells #[.string O.key, .int .i64 O.flags, .string O.data, .int .i64 O.upto, .int .i64 O.token] 37)).heap.size = wc.heap.size + 1 := by simp
  generalize wc.alloc (.cells #[.string O.key, .int .i64 O.flags, .string O.data, .int .i64 O.upto, .int .i64 O.token] 37) = w6 at X6 I6 B6 R6 J6 z6 ⊢
  generalize wc.heap.size = bo at J6 z6 zr zc1 zc2 zc3 ⊢
  clear XR I1 BR RR a0 a1 a2 i0 i1 i2 i3 i4 i5 i6
  obtain ⟨⟨a0, a1, a2⟩, ⟨i0, i1, i2, i3, i4, i5, i6⟩, ⟨y0, y1, y2⟩, f0, f2, -⟩ := unhide X6
  obtain ⟨⟨u0, u1, u2, u3, u4⟩, fu, -⟩ := unhide I6
  obtain ⟨⟨v0, v1, v2, v3, v4⟩, fv, -⟩ := unhide J6
  go_wp2_with fail
  refine (unhide HCN _).mono ?_
  rintro e w7 ⟨rfl, hb7⟩
  have X7 := hide ((unhide X6).below hb7 (by omega))
  have R7 := hide ((unhide R6).below hb7 (Nat.le_refl _))
  have B7 := hide ((unhide B6).trans (hb7.mono (by omega)))
  have I7 := hide ((unhide I6).below hb7 (by omega))
  have J7 := hide ((unhide J6).below hb7 (by omega))
  have z7 : w6.heap.size ≤ w7.heap.size := hb7.size
  clear a0 a1 a2 i0 i1 i2 i3 i4 i5 i6 y0 y1 y2 f0 f2 u0 u1 u2 u3 u4 v0 v1 v2 v3 v4 fu fv X6 R6 B6 I6 J6 hb7
  obtain ⟨⟨a0, a1, a2⟩, ⟨i0, i1, i2, i3, i4, i5, i6⟩, ⟨y0, y1, y2⟩, f0, f2, -⟩ := unhide X7
  obtain ⟨⟨u0, u1, u2, u3, u4⟩, fu, -⟩ := unhide I7
  obtain ⟨⟨v0, v1, v2, v3, v4⟩, fv, -⟩ := unhide J7
  go_wp2
  refine bodyPost_ret (v := .tuple #[.agg #[.int .i64 lim, .int .i64 nx, .slice (some ⟨b, 0, none⟩) its.length cap], .string Shelf.badT, .int .i64 0]) (by simp [results, Tryz.results73, go_sem, y0, y1, y2, Shelf.badT]) rfl ⟨(some ⟨b, 0, none⟩), cap, rfl, ?_, .inl rfl, ?_⟩
  · repeat (refine Row.set (H := w.heap.size) ?_ (fun b' e => .inl (hap b' e)) (by omega) _)
    exact unhide R7
  · repeat (refine Below.setCell ?_ (by first | (simp; done) | (simp; omega)) _)
    exact unhide B7
end Rw
end Go.Proofs.YtkdcofmpbmiloaaGreatDoor
