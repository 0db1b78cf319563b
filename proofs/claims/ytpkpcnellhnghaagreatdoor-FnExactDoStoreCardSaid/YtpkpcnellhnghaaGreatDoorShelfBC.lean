/-
  The program's answerTo and do: a command at a shelf.
-/
import Derived.Test.YtpkpcnellhnghaaGreatDoorShelfAQ
namespace Go.Proofs.YtpkpcnellhnghaaGreatDoor
namespace Shelf
open Go.RowKit Base Items Keep Own Chain Store GoodKey NumText
set_option linter.unusedVariables false

theorem touchO_nx (nx : Int) (its : List Itm) (now : Int) (key : ByteArray) (x : Int) : (touchO nx its now key x).nx = nx := by unfold touchO; split <;> rfl
theorem touchO_lost (nx : Int) (its : List Itm) (now : Int) (key : ByteArray) (x : Int) : (touchO nx its now key x).lost = 0 := by unfold touchO; split <;> rfl
theorem plainO_nx (nx : Int) (its : List Itm) (nm : List UInt8) : (plainO nx its nm).nx = nx := by
  unfold plainO
  split
  · rfl
  · split <;> rfl
theorem plainO_lost (nx : Int) (its : List Itm) (nm : List UInt8) : (plainO nx its nm).lost = 0 := by
  unfold plainO
  split
  · rfl
  · split <;> rfl

set_option maxRecDepth 10000 in
set_option maxHeartbeats 8000000 in
theorem answer_shelf (G : Nat × Obj) (w0 w : World) (hb : Nat) (lim nx lost : Int) (its : List Itm) (now : Int) (nm : ByteArray) (kb ko kc : Nat) (ks : List ByteArray) (f x n : Int) (dt : ByteArray) (q : Bool) (hs : Sh G w0 w hb lim nx lost its) (hok : TellOk (its, ByteArray.empty) 0) (hv : Count.Vars w0)
    (hkb : kb < w0.heap.size) (hkc : ∀ i, i < ks.length → w0.cell? ⟨kb, ko + i, none⟩ = some (.string (ks.getD i ByteArray.empty))) (hkl : ks.length ≤ 10) (hks : ∀ s ∈ ks, s.size ≤ 30) (hk0 : 2 ≤ Kind.kindN nm.toList ∧ Kind.kindN nm.toList ≤ 6 → 0 < ks.length)
    (hdt : dt.size ≤ 100) (hl : its.length ≤ 60) (hlim : 0 ≤ lim ∧ lim ≤ 10000) (hnx : 1 ≤ nx ∧ nx ≤ 1000000000) (hlo : 0 ≤ lost ∧ lost ≤ 500) (hnow : 0 ≤ now ∧ now ≤ 1000000000) (hx : 0 ≤ x ∧ x ≤ 1000000000) (hn : (Lit.int .i64 n).wf = true) :
    Calls Tryz.prog 55 #[.pointer (some ⟨hb, 0, none⟩), .int .i64 now, .agg #[.string nm, .slice (some ⟨kb, ko, none⟩) ks.length kc, .int .i64 f, .int .i64 x, .int .i64 n, .string dt, .bool q]] w fun e w' =>
      e = .returned (.string (ansO lim nx its now nm.toList ks f x n dt).ans) ∧ Sh G w0 w' hb lim (ansO lim nx its now nm.toList ks f x n dt).nx (lost + (ansO lim nx its now nm.toList ks f x n dt).lost) (ansO lim nx its now nm.toList ks f x n dt).its := by
  have HS := hide hs
  have hkd := Kind.kindN_bd nm.toList
  have HKD := hide (fun w => Kind.impl_any nm w)
  have HAO : Hid (ansO lim nx its now nm.toList ks f x n dt = if Kind.kindN nm.toList = 1 then tellO nx its nm.toList ks else
    if Kind.kindN nm.toList = 2 then setO lim nx its now nm.toList (ks.getD 0 ByteArray.empty) f x n dt else
    if Kind.kindN nm.toList = 3 then setO lim nx its now nm.toList (ks.getD 0 ByteArray.empty) f x n dt else
    if Kind.kindN nm.toList = 4 then countO lim nx its nm.toList (ks.getD 0 ByteArray.empty) n else
    if Kind.kindN nm.toList = 5 then touchO nx its now (ks.getD 0 ByteArray.empty) x else
    if Kind.kindN nm.toList = 6 then removeO nx its (ks.getD 0 ByteArray.empty) else
    plainO nx its nm.toList) := rfl
  have hk1 : 0 < ks.length → w0.cell? ⟨kb, ko, none⟩ = some (.string (ks.getD 0 ByteArray.empty)) ∧ (ks.getD 0 ByteArray.empty).size ≤ 30 := fun h => by
    have := hkc 0 h
    rw [Nat.add_zero] at this
    exact ⟨this, hks _ (by rw [List.getD_eq_getElem?_getD, List.getElem?_eq_getElem h]; exact List.getElem_mem _)⟩
  have HTL := hide (fun w1 (h : Sh G w0 w1 hb lim nx lost its) tk => tell_shelf G w0 w1 hb lim nx lost its kb ko kc ks tk h hok hv hkb hkc (by omega) (fun s hs => by have := hks s hs; omega))
  have hck : ∀ w1, Sh G w0 w1 hb lim nx lost its → 0 < ks.length → w1.cell? ⟨kb, ko, none⟩ = some (.string (ks.getD 0 ByteArray.empty)) := fun w1 h h0 => (h.bel.cell (p := ⟨kb, ko, none⟩) hkb).trans (hk1 h0).1
  have HST := hide (fun w1 (h : Sh G w0 w1 hb lim nx lost its) (h0 : 0 < ks.length) => set_shelf G w0 w1 hb lim nx lost its now nm kb ko kc ks.length (ks.getD 0 ByteArray.empty) f x n dt q h hkb (hk1 h0).1 h0 (hk1 h0).2 hdt hl hlim hnx hlo hnow hx)
  have HCT := hide (fun w1 (h : Sh G w0 w1 hb lim nx lost its) (h0 : 0 < ks.length) => count_shelf G w0 w1 hb lim nx lost its nm kb ko kc ks.length (ks.getD 0 ByteArray.empty) f x n dt q h hv hkb (hk1 h0).1 h0 (hk1 h0).2 hl hlim hnx hlo hn)
  have HTC := hide (fun w1 (h : Sh G w0 w1 hb lim nx lost its) (h0 : 0 < ks.length) => sh_touch h now (ks.getD 0 ByteArray.empty) x hl (by have := (hk1 h0).2; unfold maxLen; omega))
  have HRM := hide (fun w1 (h : Sh G w0 w1 hb lim nx lost its) (h0 : 0 < ks.length) => sh_remove h (ks.getD 0 ByteArray.empty) hl (by have := (hk1 h0).2; unfold maxLen; omega))
  have HPL := hide (fun w1 (h : Sh G w0 w1 hb lim nx lost its) => sh_plain h nm)
  have HUN := hide (fun w1 => untilOf_same now x w1 hnow hx)
  have HCK := hide hck
  have hkbw : kb < w.heap.size := Nat.lt_of_lt_of_le hkb hs.bel.size
  generalize ks.getD 0 ByteArray.empty = key at HAO HST HCT HTC HRM HCK
  generalize ansO lim nx its now nm.toList ks f x n dt = O at HAO ⊢
  generalize hK : Kind.kindN nm.toList = K at HAO HKD hk0 hkd
  have HKN := hide hK
  clear hs hok hv hkc hks hk1 hck hK hn
  obtain rfl | rfl | rfl | rfl | rfl | rfl | rfl | rfl : K = 0 ∨ K = 1 ∨ K = 2 ∨ K = 3 ∨ K = 4 ∨ K = 5 ∨ K = 6 ∨ K = 7 := by omega
  · have hE : O = plainO nx its nm.toList := unhide HAO
    subst hE
    clear HAO hk0 hkd
    go_enter Tryz.func55, Tryz.ntmps55
    go_wp2_with fail
    refine (unhide HKD _).mono ?_
    rintro e w1 ⟨rfl, hw1⟩
    subst hw1
    go_wp2_with fail
    refine (unhide HPL _ ((unhide HS).below (bel1 w _))).mono ?_
    rintro e w2 ⟨rfl, hs2⟩
    have HS2 := hide hs2
    clear hs2
    go_wp2
    go_ret
    exact ⟨rfl, by simpa [tellO, touchO_nx, touchO_lost, removeO, plainO_nx, plainO_lost] using unhide HS2⟩
  · have hE : O = tellO nx its nm.toList ks := unhide HAO
    subst hE
    clear HAO hk0 hkd
    go_enter Tryz.func55, Tryz.ntmps55
    go_wp2_with fail
    refine (unhide HKD _).mono ?_
    rintro e w1 ⟨rfl, hw1⟩
    subst hw1
    go_wp2_with fail
    refine (unhide HTL _ ((unhide HS).below (bel1 w _)) _).mono ?_
    rintro e w2 ⟨rfl, hs2⟩
    have HS2 := hide hs2
    clear hs2
    go_wp2
    go_ret
    exact ⟨rfl, by simpa [tellO, touchO_nx, touchO_lost, removeO, plainO_nx, plainO_lost] using unhide HS2⟩
  · have hE : O = setO lim nx its now nm.toList key f x n dt := unhide HAO
    subst hE
    have h0 := hk0 (by omega)
    have hckw := unhide HCK _ (unhide HS) h0
    have hnl : (0 : Int) < (ks.length : Int) := by omega
    clear HAO hk0 hkd
    go_enter Tryz.func55, Tryz.ntmps55
    go_wp2_with fail
    refine (unhide HKD _).mono ?_
    rintro e w1 ⟨rfl, hw1⟩
    subst hw1
    go_wp2_with fail
    refine (unhide HST _ ((unhide HS).below (bel1 w _)) h0).mono ?_
    rintro e w2 ⟨rfl, hs2⟩
    have HS2 := hide hs2
    clear hs2
    go_wp2
    go_ret
    exact ⟨rfl, by simpa [tellO, touchO_nx, touchO_lost, removeO, plainO_nx, plainO_lost] using unhide HS2⟩
  · have hE : O = setO lim nx its now nm.toList key f x n dt := unhide HAO
    subst hE
    have h0 := hk0 (by omega)
    have hckw := unhide HCK _ (unhide HS) h0
    have hnl : (0 : Int) < (ks.length : Int) := by omega
    clear HAO hk0 hkd
    go_enter Tryz.func55, Tryz.ntmps55
    go_wp2_with fail
    refine (unhide HKD _).mono ?_
    rintro e w1 ⟨rfl, hw1⟩
    subst hw1
    go_wp2_with fail
    refine (unhide HST _ ((unhide HS).below (bel1 w _)) h0).mono ?_
    rintro e w2 ⟨rfl, hs2⟩
    have HS2 := hide hs2
    clear hs2
    go_wp2
    go_ret
    exact ⟨rfl, by simpa [tellO, touchO_nx, touchO_lost, removeO, plainO_nx, plainO_lost] using unhide HS2⟩
  · have hE : O = countO lim nx its nm.toList key n := unhide HAO
    subst hE
    have h0 := hk0 (by omega)
    have hckw := unhide HCK _ (unhide HS) h0
    have hnl : (0 : Int) < (ks.length : Int) := by omega
    clear HAO hk0 hkd
    go_enter Tryz.func55, Tryz.ntmps55
    go_wp2_with fail
    refine (unhide HKD _).mono ?_
    rintro e w1 ⟨rfl, hw1⟩
    subst hw1
    go_wp2_with fail
    refine (unhide HCT _ ((unhide HS).below (bel1 w _)) h0).mono ?_
    rintro e w2 ⟨rfl, hs2⟩
    have HS2 := hide hs2
    clear hs2
    go_wp2
    go_ret
    exact ⟨rfl, by simpa [tellO, touchO_nx, touchO_lost, removeO, plainO_nx, plainO_lost] using unhide HS2⟩
  · have hE : O = touchO nx its now key x := unhide HAO
    subst hE
    have h0 := hk0 (by omega)
    have hckw := unhide HCK _ (unhide HS) h0
    have hnl : (0 : Int) < (ks.length : Int) := by omega
    clear HAO hk0 hkd
    have HTU := hide (unhide HTC)
    have hTn := hide (⟨touchO_nx nx its now key x, touchO_lost nx its now key x⟩ : (touchO nx its now key x).nx = nx ∧ (touchO nx its now key x).lost = 0)
    generalize untilR now x = u at HTU HUN
    generalize touchO nx its now key x = T at HTU hTn ⊢
    go_enter Tryz.func55, Tryz.ntmps55
    go_wp2_with fail
    refine (unhide HKD _).mono ?_
    rintro e w1 ⟨rfl, hw1⟩
    subst hw1
    go_wp2_with fail
    go_region_with (first | (go_at_call 72; refine (unhide HUN _).mono ?_; rintro e w2 ⟨rfl, rfl⟩) | (go_at_call 71; refine (unhide HTU _ ((unhide HS).below (bel1 w _).drew) h0).mono ?_; rintro e w3 ⟨rfl, hs3⟩; have HS3 := hide hs3))
    all_goals
      go_wp2
      go_ret
      exact ⟨rfl, by rw [(unhide hTn).1, (unhide hTn).2]; simpa using unhide HS3⟩
  · have hE : O = removeO nx its key := unhide HAO
    subst hE
    have h0 := hk0 (by omega)
    have hckw := unhide HCK _ (unhide HS) h0
    have hnl : (0 : Int) < (ks.length : Int) := by omega
    clear HAO hk0 hkd
    go_enter Tryz.func55, Tryz.ntmps55
    go_wp2_with fail
    refine (unhide HKD _).mono ?_
    rintro e w1 ⟨rfl, hw1⟩
    subst hw1
    go_wp2_with fail
    refine (unhide HRM _ ((unhide HS).below (bel1 w _)) h0).mono ?_
    rintro e w2 ⟨rfl, hs2⟩
    have HS2 := hide hs2
    clear hs2
    go_wp2
    go_ret
    exact ⟨rfl, by simpa [tellO, touchO_nx, touchO_lost, removeO, plainO_nx, plainO_lost] using unhide HS2⟩
  · have hE : O = plainO nx its nm.toList := unhide HAO
    subst hE
    clear HAO hk0 hkd
    go_enter Tryz.func55, Tryz.ntmps55
    go_wp2_with fail
    refine (unhide HKD _).mono ?_
    rintro e w1 ⟨rfl, hw1⟩
    subst hw1
    go_wp2_with fail
    refine (unhide HPL _ ((unhide HS).below (bel1 w _))).mono ?_
    rintro e w2 ⟨rfl, hs2⟩
    have HS2 := hide hs2
    clear hs2
    go_wp2
    go_ret
    exact ⟨rfl, by simpa [tellO, touchO_nx, touchO_lost, removeO, plainO_nx, plainO_lost] using unhide HS2⟩
end Shelf
end Go.Proofs.YtpkpcnellhnghaaGreatDoor
/-
  The program's do: a command at a shelf.
-/
namespace Go.Proofs.YtpkpcnellhnghaaGreatDoor
namespace Shelf
open Go.RowKit Base Items Keep Own Chain Store GoodKey NumText
set_option linter.unusedVariables false

/-- Another block is kept: one made behind. -/
theorem Sh.guard {G : Nat × Obj} {w0 w : World} {hb : Nat} {lim nx lost : Int} {its : List Itm} (h : Sh G w0 w hb lim nx lost its) (o : Obj) : Sh (w.heap.size, o) w0 (w.alloc o) hb lim nx lost its := by
  obtain ⟨S, hs, hS0, hb0, hg⟩ := h
  refine ⟨S, hs.below (bel1 w o), fun b hm => ⟨(hS0 b hm).1, ?_⟩, hb0.trans ((bel1 w o).mono hb0.size), heap_alloc_new w o⟩
  have := hs.lt b hm
  show b ≠ w.heap.size
  omega
def Shx (w0 w : World) (hb : Nat) (lim nx lost : Int) (its : List Itm) : Prop := ∃ G, Sh G w0 w hb lim nx lost its
theorem cell_of_box {w : World} {b o : Nat} {cs : Array Value} {t : TypeId} {v : Value} (h : w.heap[b]? = some (.cells cs t (0, 0))) (hv : cs[o]? = some v) : w.cell? ⟨b, o, none⟩ = some v := by
  simp [World.cell?, h, hv]

set_option maxRecDepth 10000 in
set_option maxHeartbeats 2000000 in
theorem do_shelf (G : Nat × Obj) (w0 w : World) (hb : Nat) (lim nx lost : Int) (its : List Itm) (now : Int) (nm : ByteArray) (kb ko kc : Nat) (ks : List ByteArray) (f x n : Int) (dt : ByteArray) (q : Bool) (hs : Sh G w0 w hb lim nx lost its) (hok : TellOk (its, ByteArray.empty) 0) (hv : Count.Vars w0)
    (hkb : kb < w0.heap.size) (hkc : ∀ i, i < ks.length → w0.cell? ⟨kb, ko + i, none⟩ = some (.string (ks.getD i ByteArray.empty))) (hcm : CmdOk (Kind.kindN nm.toList) ks f x n dt) (hl : its.length ≤ 60) (hlim : 0 ≤ lim ∧ lim ≤ 10000) (hnx : 1 ≤ nx ∧ nx ≤ 1000000000) (hlo : 0 ≤ lost ∧ lost ≤ 500) (hnow : 0 ≤ now ∧ now ≤ 1000000000) :
    Calls Tryz.prog 28 #[.pointer (some ⟨hb, 0, none⟩), .int .i64 now, .agg #[.string nm, .slice (some ⟨kb, ko, none⟩) ks.length kc, .int .i64 f, .int .i64 x, .int .i64 n, .string dt, .bool q]] w fun e w' =>
      e = .returned (.string (if q = true then ⟨#[]⟩ else (ansO lim nx its now nm.toList ks f x n dt).ans)) ∧ Shx w0 w' hb lim (ansO lim nx its now nm.toList ks f x n dt).nx (lost + (ansO lim nx its now nm.toList ks f x n dt).lost) (ansO lim nx its now nm.toList ks f x n dt).its := by
  obtain ⟨c1, c2, c3, c4, c5, c6, c7⟩ := hcm
  have hn : (Lit.int .i64 n).wf = true := by
    have e1 : IntKind.i64.min = -9223372036854775808 := rfl
    have e2 : IntKind.i64.max = 9223372036854775807 := rfl
    simp [Lit.wf]; omega
  have HA := hide (fun w1 g1 (h : Sh g1 w0 w1 hb lim nx lost its) => answer_shelf g1 w0 w1 hb lim nx lost its now nm kb ko kc ks f x n dt q h hok hv hkb hkc c1 c2 c3 c4 hl hlim hnx hlo hnow c6 hn)
  have HG := hide (fun o => hs.guard o)
  generalize ansO lim nx its now nm.toList ks f x n dt = O at HA ⊢
  clear hs hok hv hkc c1 c2 c3 c4 c5 c6 c7 hn hl hlim hnx hlo hnow
  cases q
  all_goals
    go_enter Tryz.func28, Tryz.ntmps28
    go_wp2_with fail
    refine (unhide HA _ _ (unhide HG _)).mono ?_
    rintro e w1 ⟨rfl, hs1⟩
    have hc6 := cell_of_box (o := 6) (v := .bool _) hs1.box rfl
    dsimp only at hc6
    have HS1 := hide hs1
    clear hs1
    go_wp2
    go_ret
    exact ⟨rfl, _, unhide HS1⟩
end Shelf
end Go.Proofs.YtpkpcnellhnghaaGreatDoor
