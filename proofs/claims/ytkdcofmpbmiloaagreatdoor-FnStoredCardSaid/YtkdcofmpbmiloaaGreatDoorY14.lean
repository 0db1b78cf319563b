/-
  How DoStore ends, by rows (written by a program of mine).
-/
import Derived.Test.YtkdcofmpbmiloaaGreatDoorY8
import Derived.Test.YtkdcofmpbmiloaaGreatDoorY4
import Derived.Test.YtkdcofmpbmiloaaGreatDoorY3
import Derived.Test.YtkdcofmpbmiloaaGreatDoorY13
import Derived.Test.YtkdcofmpbmiloaaGreatDoorGoodStoreI
import Derived.Test.YtkdcofmpbmiloaaGreatDoorY6
import Derived.Deep.RegionWith
namespace Go.Proofs.YtkdcofmpbmiloaaGreatDoor
namespace Shelf
open Go.RowKit Base Items Store
set_option linter.unusedVariables false

/-- How DoStore ends: what it tells lies in a row of its own. -/
def DoRow (T : Done) (w : World) (e : Ending) (w' : World) : Prop :=
  ∃ a cap, e = .returned (.tuple #[.agg #[.int .i64 T.lim, .int .i64 T.nx, .slice a T.its.length cap], .string T.ans, .int .i64 T.lost, .bool T.ok]) ∧ w'.ownsRow w.heap.size 37 5 (.slice a T.its.length cap) T.its.length (Own.flat T.its) ∧ Below w.heap.size w w'
end Shelf
namespace Rw
open Go.RowKit Base Items Store Own
open _root_.Go.Proofs.YtkdcofmpbmiloaaGreatDoor.Shelf
set_option linter.unusedVariables false

theorem doRow_row {w w' : World} {B : Nat} {lim nx : Int} {its : List Itm} {ans : ByteArray} {lost : Nat} {a : Option Addr} {cap : Nat} (h : Row w' B (.slice a its.length cap) its) (hB : w.heap.size ≤ B) (hb : Below w.heap.size w w') :
    DoRow ⟨lim, nx, its, ans, lost, true⟩ w (.returned (.tuple #[.agg #[.int .i64 lim, .int .i64 nx, .slice a its.length cap], .string ans, .int .i64 lost, .bool true])) w' := ⟨a, cap, rfl, OwnR.own_le h hB, hb⟩
end Rw
end Go.Proofs.YtkdcofmpbmiloaaGreatDoor
/-
  The program's answerTo and do: a command at a shelf.
-/
namespace Go.Proofs.YtkdcofmpbmiloaaGreatDoor
namespace Shelf
open Go.RowKit Base Items Keep Own Chain Store GoodKey NumText
set_option linter.unusedVariables false

theorem touchO_nx (nx : Int) (its : List Itm) (now : Int) (key : ByteArray) (x : Int) : (touchO nx its now key x).nx = nx := by unfold touchO; split <;> rfl
theorem touchO_lost (nx : Int) (its : List Itm) (now : Int) (key : ByteArray) (x : Int) : (touchO nx its now key x).lost = 0 := by unfold touchO; split <;> rfl
theorem plainO_nx (nx : Int) (its : List Itm) (nm : List UInt8) : (plainO nx its nm).nx = nx := by
  unfold plainO
  split
  · rfl
  · split <;> rfl
theorem plainO_lost (nx : Int) (its : List Itm) (nm : List UInt8) : (plainO nx its nm).lost = 0 := by
  unfold plainO
  split
  · rfl
  · split <;> rfl

set_option maxRecDepth 10000 in
set_option maxHeartbeats 8000000 in
theorem answer_shelf (G : List (Nat × Obj)) (w0 w : World) (hb : Nat) (lim nx lost : Int) (its : List Itm) (now : Int) (nm : ByteArray) (kb ko kc : Nat) (ks : List ByteArray) (f x n : Int) (dt : ByteArray) (q : Bool) (p : Addr) (hs : Sh G w0 w hb lim nx lost its) (hF : FullIs w0 p) (hok : TellOk (its, ByteArray.empty) 0) (hv : Count.Vars w0)
    (hkb : kb < w0.heap.size) (hkc : ∀ i, i < ks.length → w0.cell? ⟨kb, ko + i, none⟩ = some (.string (ks.getD i ByteArray.empty))) (hkl : ks.length ≤ 10) (hks : ∀ s ∈ ks, s.size ≤ 30) (hk0 : 2 ≤ Kind.kindN nm.toList ∧ Kind.kindN nm.toList ≤ 6 → 0 < ks.length)
    (hdt : dt.size ≤ 100) (hl : its.length ≤ 60) (hlim : 0 ≤ lim ∧ lim ≤ 10000) (hnx : 1 ≤ nx ∧ nx ≤ 1000000000) (hlo : 0 ≤ lost ∧ lost ≤ 500) (hnow : 0 ≤ now ∧ now ≤ 1000000000) (hx : 0 ≤ x ∧ x ≤ 1000000000) (hn : (Lit.int .i64 n).wf = true) :
    Calls Tryz.prog 48 #[.pointer (some ⟨hb, 0, none⟩), .int .i64 now, .agg #[.string nm, .slice (some ⟨kb, ko, none⟩) ks.length kc, .int .i64 f, .int .i64 x, .int .i64 n, .string dt, .bool q]] w fun e w' =>
      AnsEnd p (ansO lim nx its now nm.toList ks f x n dt).ans e ∧ Sh G w0 w' hb lim (ansO lim nx its now nm.toList ks f x n dt).nx (lost + (ansO lim nx its now nm.toList ks f x n dt).lost) (ansO lim nx its now nm.toList ks f x n dt).its := by
  have HS := hide hs
  have hkd := Kind.kindN_bd nm.toList
  have HKD := hide (fun w => Kind.impl_any nm w)
  have HAO : Hid (ansO lim nx its now nm.toList ks f x n dt = if Kind.kindN nm.toList = 1 then tellO nx its nm.toList ks else
    if Kind.kindN nm.toList = 2 then setO lim nx its now nm.toList (ks.getD 0 ByteArray.empty) f x n dt else
    if Kind.kindN nm.toList = 3 then setO lim nx its now nm.toList (ks.getD 0 ByteArray.empty) f x n dt else
    if Kind.kindN nm.toList = 4 then countO lim nx its nm.toList (ks.getD 0 ByteArray.empty) n else
    if Kind.kindN nm.toList = 5 then touchO nx its now (ks.getD 0 ByteArray.empty) x else
    if Kind.kindN nm.toList = 6 then removeO nx its (ks.getD 0 ByteArray.empty) else
    plainO nx its nm.toList) := rfl
  have hk1 : 0 < ks.length → w0.cell? ⟨kb, ko, none⟩ = some (.string (ks.getD 0 ByteArray.empty)) ∧ (ks.getD 0 ByteArray.empty).size ≤ 30 := fun h => by
    have := hkc 0 h
    rw [Nat.add_zero] at this
    exact ⟨this, hks _ (by rw [List.getD_eq_getElem?_getD, List.getElem?_eq_getElem h]; exact List.getElem_mem _)⟩
  have HTL := hide (fun w1 (h : Sh G w0 w1 hb lim nx lost its) tk => tell_shelf G w0 w1 hb lim nx lost its kb ko kc ks tk h hok hv hkb hkc (by omega) (fun s hs => by have := hks s hs; omega))
  have hck : ∀ w1, Sh G w0 w1 hb lim nx lost its → 0 < ks.length → w1.cell? ⟨kb, ko, none⟩ = some (.string (ks.getD 0 ByteArray.empty)) := fun w1 h h0 => (h.bel.cell (p := ⟨kb, ko, none⟩) hkb).trans (hk1 h0).1
  have HST := hide (fun w1 (h : Sh G w0 w1 hb lim nx lost its) (h0 : 0 < ks.length) => set_shelf G w0 w1 hb lim nx lost its now nm kb ko kc ks.length (ks.getD 0 ByteArray.empty) f x n dt q p h hF hkb (hk1 h0).1 h0 (hk1 h0).2 hdt hl hlim hnx hlo hnow hx)
  have HCT := hide (fun w1 (h : Sh G w0 w1 hb lim nx lost its) (h0 : 0 < ks.length) => count_shelf G w0 w1 hb lim nx lost its nm kb ko kc ks.length (ks.getD 0 ByteArray.empty) f x n dt q p h hF hv hkb (hk1 h0).1 h0 (hk1 h0).2 hl hlim hnx hlo hn)
  have HTC := hide (fun w1 (h : Sh G w0 w1 hb lim nx lost its) (h0 : 0 < ks.length) => sh_touch h now (ks.getD 0 ByteArray.empty) x hl (by have := (hk1 h0).2; unfold maxLen; omega))
  have HRM := hide (fun w1 (h : Sh G w0 w1 hb lim nx lost its) (h0 : 0 < ks.length) => sh_remove h (ks.getD 0 ByteArray.empty) hl (by have := (hk1 h0).2; unfold maxLen; omega))
  have HPL := hide (fun w1 (h : Sh G w0 w1 hb lim nx lost its) => sh_plain h nm)
  have HUN := hide (fun w1 => untilOf_same now x w1 hnow hx)
  have HCK := hide hck
  have hkbw : kb < w.heap.size := Nat.lt_of_lt_of_le hkb hs.bel.size
  generalize ks.getD 0 ByteArray.empty = key at HAO HST HCT HTC HRM HCK
  generalize ansO lim nx its now nm.toList ks f x n dt = O at HAO ⊢
  generalize hK : Kind.kindN nm.toList = K at HAO HKD hk0 hkd
  have HKN := hide hK
  clear hs hok hv hkc hks hk1 hck hK hn
  obtain rfl | rfl | rfl | rfl | rfl | rfl | rfl | rfl : K = 0 ∨ K = 1 ∨ K = 2 ∨ K = 3 ∨ K = 4 ∨ K = 5 ∨ K = 6 ∨ K = 7 := by omega
  · have hE : O = plainO nx its nm.toList := unhide HAO
    subst hE
    clear HAO hk0 hkd
    go_enter Tryz.func48, Tryz.ntmps48
    go_wp2_with fail
    refine (unhide HKD _).mono ?_
    rintro e w1 ⟨rfl, hw1⟩
    subst hw1
    go_wp2_with fail
    refine (unhide HPL _ ((unhide HS).below (bel1 w _))).mono ?_
    rintro e w2 ⟨rfl, hs2⟩
    have HS2 := hide hs2
    clear hs2
    go_wp2
    go_ret
    exact ⟨.inl rfl, by simpa [tellO, touchO_nx, touchO_lost, removeO, plainO_nx, plainO_lost] using unhide HS2⟩
  · have hE : O = tellO nx its nm.toList ks := unhide HAO
    subst hE
    clear HAO hk0 hkd
    go_enter Tryz.func48, Tryz.ntmps48
    go_wp2_with fail
    refine (unhide HKD _).mono ?_
    rintro e w1 ⟨rfl, hw1⟩
    subst hw1
    go_wp2_with fail
    refine (unhide HTL _ ((unhide HS).below (bel1 w _)) _).mono ?_
    rintro e w2 ⟨rfl, hs2⟩
    have HS2 := hide hs2
    clear hs2
    go_wp2
    go_ret
    exact ⟨.inl rfl, by simpa [tellO, touchO_nx, touchO_lost, removeO, plainO_nx, plainO_lost] using unhide HS2⟩
  · have hE : O = setO lim nx its now nm.toList key f x n dt := unhide HAO
    subst hE
    have h0 := hk0 (by omega)
    have hckw := unhide HCK _ (unhide HS) h0
    have hnl : (0 : Int) < (ks.length : Int) := by omega
    clear HAO hk0 hkd
    go_enter Tryz.func48, Tryz.ntmps48
    go_wp2_with fail
    refine (unhide HKD _).mono ?_
    rintro e w1 ⟨rfl, hw1⟩
    subst hw1
    go_wp2_with fail
    refine (unhide HST _ ((unhide HS).below (bel1 w _)) h0).mono ?_
    rintro e w2 ⟨he, hs2⟩
    have HS2 := hide hs2
    clear hs2
    rcases he with rfl | ⟨hfull, rfl⟩
    · go_wp2
      go_ret
      exact ⟨.inl rfl, by simpa [tellO, touchO_nx, touchO_lost, removeO, plainO_nx, plainO_lost] using unhide HS2⟩
    · have HFL := hide hfull
      clear hfull
      go_wp2
      exact ⟨rfl, .inr ⟨unhide HFL, rfl⟩, by simpa [tellO, touchO_nx, touchO_lost, removeO, plainO_nx, plainO_lost] using unhide HS2⟩
  · have hE : O = setO lim nx its now nm.toList key f x n dt := unhide HAO
    subst hE
    have h0 := hk0 (by omega)
    have hckw := unhide HCK _ (unhide HS) h0
    have hnl : (0 : Int) < (ks.length : Int) := by omega
    clear HAO hk0 hkd
    go_enter Tryz.func48, Tryz.ntmps48
    go_wp2_with fail
    refine (unhide HKD _).mono ?_
    rintro e w1 ⟨rfl, hw1⟩
    subst hw1
    go_wp2_with fail
    refine (unhide HST _ ((unhide HS).below (bel1 w _)) h0).mono ?_
    rintro e w2 ⟨he, hs2⟩
    have HS2 := hide hs2
    clear hs2
    rcases he with rfl | ⟨hfull, rfl⟩
    · go_wp2
      go_ret
      exact ⟨.inl rfl, by simpa [tellO, touchO_nx, touchO_lost, removeO, plainO_nx, plainO_lost] using unhide HS2⟩
    · have HFL := hide hfull
      clear hfull
      go_wp2
      exact ⟨rfl, .inr ⟨unhide HFL, rfl⟩, by simpa [tellO, touchO_nx, touchO_lost, removeO, plainO_nx, plainO_lost] using unhide HS2⟩
  · have hE : O = countO lim nx its nm.toList key n := unhide HAO
    subst hE
    have h0 := hk0 (by omega)
    have hckw := unhide HCK _ (unhide HS) h0
    have hnl : (0 : Int) < (ks.length : Int) := by omega
    clear HAO hk0 hkd
    go_enter Tryz.func48, Tryz.ntmps48
    go_wp2_with fail
    refine (unhide HKD _).mono ?_
    rintro e w1 ⟨rfl, hw1⟩
    subst hw1
    go_wp2_with fail
    refine (unhide HCT _ ((unhide HS).below (bel1 w _)) h0).mono ?_
    rintro e w2 ⟨he, hs2⟩
    have HS2 := hide hs2
    clear hs2
    rcases he with rfl | ⟨hfull, rfl⟩
    · go_wp2
      go_ret
      exact ⟨.inl rfl, by simpa [tellO, touchO_nx, touchO_lost, removeO, plainO_nx, plainO_lost] using unhide HS2⟩
    · have HFL := hide hfull
      clear hfull
      go_wp2
      exact ⟨rfl, .inr ⟨unhide HFL, rfl⟩, by simpa [tellO, touchO_nx, touchO_lost, removeO, plainO_nx, plainO_lost] using unhide HS2⟩
  · have hE : O = touchO nx its now key x := unhide HAO
    subst hE
    have h0 := hk0 (by omega)
    have hckw := unhide HCK _ (unhide HS) h0
    have hnl : (0 : Int) < (ks.length : Int) := by omega
    clear HAO hk0 hkd
    have HTU := hide (unhide HTC)
    have hTn := hide (⟨touchO_nx nx its now key x, touchO_lost nx its now key x⟩ : (touchO nx its now key x).nx = nx ∧ (touchO nx its now key x).lost = 0)
    generalize untilR now x = u at HTU HUN
    generalize touchO nx its now key x = T at HTU hTn ⊢
    go_enter Tryz.func48, Tryz.ntmps48
    go_wp2_with fail
    refine (unhide HKD _).mono ?_
    rintro e w1 ⟨rfl, hw1⟩
    subst hw1
    go_wp2_with fail
    go_region_with (first | (go_at_call 65; refine (unhide HUN _).mono ?_; rintro e w2 ⟨rfl, rfl⟩) | (go_at_call 64; refine (unhide HTU _ ((unhide HS).below (bel1 w _).drew) h0).mono ?_; rintro e w3 ⟨rfl, hs3⟩; have HS3 := hide hs3))
    all_goals
      go_wp2
      go_ret
      exact ⟨.inl rfl, by rw [(unhide hTn).1, (unhide hTn).2]; simpa using unhide HS3⟩
  · have hE : O = removeO nx its key := unhide HAO
    subst hE
    have h0 := hk0 (by omega)
    have hckw := unhide HCK _ (unhide HS) h0
    have hnl : (0 : Int) < (ks.length : Int) := by omega
    clear HAO hk0 hkd
    go_enter Tryz.func48, Tryz.ntmps48
    go_wp2_with fail
    refine (unhide HKD _).mono ?_
    rintro e w1 ⟨rfl, hw1⟩
    subst hw1
    go_wp2_with fail
    refine (unhide HRM _ ((unhide HS).below (bel1 w _)) h0).mono ?_
    rintro e w2 ⟨rfl, hs2⟩
    have HS2 := hide hs2
    clear hs2
    go_wp2
    go_ret
    exact ⟨.inl rfl, by simpa [tellO, touchO_nx, touchO_lost, removeO, plainO_nx, plainO_lost] using unhide HS2⟩
  · have hE : O = plainO nx its nm.toList := unhide HAO
    subst hE
    clear HAO hk0 hkd
    go_enter Tryz.func48, Tryz.ntmps48
    go_wp2_with fail
    refine (unhide HKD _).mono ?_
    rintro e w1 ⟨rfl, hw1⟩
    subst hw1
    go_wp2_with fail
    refine (unhide HPL _ ((unhide HS).below (bel1 w _))).mono ?_
    rintro e w2 ⟨rfl, hs2⟩
    have HS2 := hide hs2
    clear hs2
    go_wp2
    go_ret
    exact ⟨.inl rfl, by simpa [tellO, touchO_nx, touchO_lost, removeO, plainO_nx, plainO_lost] using unhide HS2⟩
end Shelf
end Go.Proofs.YtkdcofmpbmiloaaGreatDoor
/-
  The program's gaveUp and do: a command at a shelf; what gives up is told as full.
-/
namespace Go.Proofs.YtkdcofmpbmiloaaGreatDoor
namespace Shelf
open Go.RowKit Base Items Keep Own Chain Store GoodKey NumText
set_option linter.unusedVariables false

/-- Another block is kept: one made behind. -/
theorem Sh.guard {G : List (Nat × Obj)} {w0 w : World} {hb : Nat} {lim nx lost : Int} {its : List Itm} (h : Sh G w0 w hb lim nx lost its) (o : Obj) : Sh ((w.heap.size, o) :: G) w0 (w.alloc o) hb lim nx lost its := by
  obtain ⟨S, hs, hS0, hb0, hg⟩ := h
  refine ⟨S, hs.below (bel1 w o), fun b hm => ⟨(hS0 b hm).1, fun g hg' => ?_⟩, hb0.trans ((bel1 w o).mono hb0.size), fun g hg' => ?_⟩
  · rcases List.mem_cons.1 hg' with rfl | h1
    · have := hs.lt b hm
      show b ≠ w.heap.size
      omega
    · exact (hS0 b hm).2 g h1
  · rcases List.mem_cons.1 hg' with rfl | h1
    · exact heap_alloc_new w o
    · exact ((bel1 w o).block _ (lt_of_get (hg g h1))).trans (hg g h1)
/-- One of the kept blocks is written: it and the others are kept. -/
theorem Sh.put {G : List (Nat × Obj)} {w0 w : World} {hb : Nat} {lim nx lost : Int} {its : List Itm} {g : Nat} {v0 : Value} {ty : TypeId} (h : Sh ((g, .cells #[v0] ty) :: G) w0 w hb lim nx lost its) (v : Value) (hge : w0.heap.size ≤ g) (hG : ∀ x ∈ G, x.1 ≠ g) :
    Sh ((g, .cells #[v] ty) :: G) w0 (w.setCell ⟨g, 0, none⟩ v) hb lim nx lost its := by
  obtain ⟨S, hs, hS0, hb0, hgs⟩ := h
  have hk : Keeps [g] w (w.setCell ⟨g, 0, none⟩ v) := (Keeps.refl [g] w).setCell (.inl (by simp)) _
  refine ⟨S, hs.keep hk (fun b hm => by simp; exact (hS0 b hm).2 _ (List.Mem.head _)), fun b hm => ⟨(hS0 b hm).1, fun x hx => ?_⟩, hb0.setCell hge _, fun x hx => ?_⟩
  · rcases List.mem_cons.1 hx with rfl | h1
    · exact (hS0 b hm).2 (g, .cells #[v0] ty) (List.Mem.head _)
    · exact (hS0 b hm).2 x (List.Mem.tail _ h1)
  · rcases List.mem_cons.1 hx with rfl | h1
    · have h := hgs _ (List.Mem.head _)
      dsimp only at h
      simp [World.setCell, Array.getElem?_modify, h]
    · exact (hk.block _ (lt_of_get (hgs x (List.Mem.tail _ h1))) (by simp; exact hG x h1)).trans (hgs x (List.Mem.tail _ h1))
theorem mm0 {α : Type} {a : α} {l : List α} : a ∈ a :: l := List.Mem.head _
theorem mm1 {α : Type} {a b : α} {l : List α} : b ∈ a :: b :: l := List.Mem.tail _ (List.Mem.head _)
theorem mm2 {α : Type} {a b c : α} {l : List α} : c ∈ a :: b :: c :: l := List.Mem.tail _ mm1
theorem mm3 {α : Type} {a b c d : α} {l : List α} : d ∈ a :: b :: c :: d :: l := List.Mem.tail _ mm2
theorem mm4 {α : Type} {a b c d e : α} {l : List α} : e ∈ a :: b :: c :: d :: e :: l := List.Mem.tail _ mm3
theorem sub3 {α : Type} {a b c : α} {l : List α} (ha : a ∈ l) (hb : b ∈ l) (hc : c ∈ l) : ∀ y ∈ [a, b, c], y ∈ l := by
  intro y hy
  simp only [List.mem_cons, List.not_mem_nil, or_false] at hy
  rcases hy with rfl | rfl | rfl <;> assumption
theorem sub1 {α : Type} {a : α} {l : List α} (ha : a ∈ l) : ∀ y ∈ [a], y ∈ l := by
  intro y hy
  rw [List.mem_singleton.1 hy]; exact ha
theorem ne2 {a b : Nat × Obj} {g : Nat} (ha : a.1 ≠ g) (hb : b.1 ≠ g) : ∀ y ∈ [a, b], y.1 ≠ g := by
  intro y hy
  simp only [List.mem_cons, List.not_mem_nil, or_false] at hy
  rcases hy with rfl | rfl <;> assumption
theorem Sh.perm {G G' : List (Nat × Obj)} {w0 w : World} {hb : Nat} {lim nx lost : Int} {its : List Itm} (h : Sh G w0 w hb lim nx lost its) (hG : ∀ x ∈ G', x ∈ G) : Sh G' w0 w hb lim nx lost its := by
  obtain ⟨S, hs, hS0, hb0, hgs⟩ := h
  exact ⟨S, hs, fun b hm => ⟨(hS0 b hm).1, fun x hx => (hS0 b hm).2 x (hG x hx)⟩, hb0, fun x hx => hgs x (hG x hx)⟩
def Shx (w0 w : World) (hb : Nat) (lim nx lost : Int) (its : List Itm) : Prop := ∃ G, Sh G w0 w hb lim nx lost its
theorem cell_of_box {w : World} {b o : Nat} {cs : Array Value} {t : TypeId} {v : Value} (h : w.heap[b]? = some (.cells cs t (0, 0))) (hv : cs[o]? = some v) : w.cell? ⟨b, o, none⟩ = some v := by
  simp [World.cell?, h, hv]
theorem frozen_of_box {w : World} {b o : Nat} {cs : Array Value} {t : TypeId} (h : w.heap[b]? = some (.cells cs t (0, 0))) : w.frozen? ⟨b, o, none⟩ = false := by
  simp [World.frozen?, h]

/-- What is kept beside a command that is done. -/
abbrev boxH (hb : Nat) : Obj := .cells #[.pointer (some ⟨hb, 0, none⟩)] 51
abbrev boxN (now : Int) : Obj := .cells #[.int .i64 now] 3
abbrev boxA (t : ByteArray) : Obj := .cells #[.string t] 9
abbrev boxF : Obj := .cells #[.bool false] 4

set_option maxRecDepth 10000 in
set_option maxHeartbeats 2000000 in
/-- What do hands to gaveUp: the answer is laid, or it gives up. -/
theorem do1_shelf (G : List (Nat × Obj)) (w0 w : World) (hb : Nat) (lim nx lost : Int) (its : List Itm) (now : Int) (nm : ByteArray) (kb ko kc : Nat) (ks : List ByteArray) (f x n : Int) (dt : ByteArray) (q : Bool) (p : Addr) (bh bn bc ba : Nat)
    (O : Out) (hs : Sh G w0 w hb lim nx lost its) (hF : FullIs w0 p) (m1 : (bh, boxH hb) ∈ G) (m2 : (bn, boxN now) ∈ G) (m3 : (bc, cmdObj nm kb ko ks.length kc f x n dt q) ∈ G) (m4 : (ba, boxA ⟨#[]⟩) ∈ G) (ga : w0.heap.size ≤ ba)
    (hA : ∀ g1 w1, Sh g1 w0 w1 hb lim nx lost its → Calls Tryz.prog 48 #[.pointer (some ⟨hb, 0, none⟩), .int .i64 now, .agg #[.string nm, .slice (some ⟨kb, ko, none⟩) ks.length kc, .int .i64 f, .int .i64 x, .int .i64 n, .string dt, .bool q]] w1 fun e w' =>
      AnsEnd p O.ans e ∧ Sh g1 w0 w' hb lim O.nx (lost + O.lost) O.its) :
    Calls Tryz.prog 47 #[.pointer (some ⟨bh, 0, none⟩), .pointer (some ⟨bn, 0, none⟩), .pointer (some ⟨bc, 0, none⟩), .pointer (some ⟨ba, 0, none⟩)] w fun e w' =>
      (e = .returned (.tuple #[]) ∧ ∃ w1, Sh G w0 w1 hb lim O.nx (lost + O.lost) O.its ∧ w' = w1.setCell ⟨ba, 0, none⟩ (.string O.ans)) ∨ (e = .panicked (fullP p) ∧ O.ans = fullT ∧ Sh G w0 w' hb lim O.nx (lost + O.lost) O.its) := by
  have h1 := cell_of_box (o := 0) (hs.box _ m1) rfl
  have h2 := cell_of_box (o := 0) (hs.box _ m2) rfl
  have c0 := cell_of_box (o := 0) (hs.box _ m3) rfl
  have c1 := cell_of_box (o := 1) (hs.box _ m3) rfl
  have c2 := cell_of_box (o := 2) (hs.box _ m3) rfl
  have c3 := cell_of_box (o := 3) (hs.box _ m3) rfl
  have c4 := cell_of_box (o := 4) (hs.box _ m3) rfl
  have c5 := cell_of_box (o := 5) (hs.box _ m3) rfl
  have c6 := cell_of_box (o := 6) (hs.box _ m3) rfl
  have HA := hide (hA G w hs)
  have M4 := hide m4
  clear hA m1 m2 m3 m4 hs
  go_enter Tryz.func47, Tryz.ntmps47
  go_wp2_with fail
  refine (unhide HA).mono ?_
  rintro e w1 ⟨he, hs1⟩
  have ha := cell_of_box (o := 0) (hs1.box _ (unhide M4)) rfl
  have hz : w1.frozen? ⟨ba, 0, none⟩ = false := frozen_of_box (hs1.box _ (unhide M4))
  have HS1 := hide hs1
  clear hs1 h1 h2 c0 c1 c2 c3 c4 c5 c6
  rcases he with rfl | ⟨hfull, rfl⟩
  · go_wp2
    exact bodyPost_end (v := .tuple #[]) (by simp [results, Tryz.results47, go_sem]) rfl (.inl ⟨rfl, w1, unhide HS1, rfl⟩)
  · have HFL := hide hfull
    clear hfull
    go_wp2
    exact ⟨rfl, .inr ⟨rfl, unhide HFL, unhide HS1⟩⟩

theorem callF58 (cap : Array Value) (w : World) : (callFunc 47 cap).run Tryz.prog w = .ok (.enter 47 cap) w := by
  simp [go_sem]

set_option maxRecDepth 10000 in
set_option maxHeartbeats 2000000 in
theorem do_shelf (G : List (Nat × Obj)) (w0 w : World) (hb : Nat) (lim nx lost : Int) (its : List Itm) (now : Int) (nm : ByteArray) (kb ko kc : Nat) (ks : List ByteArray) (f x n : Int) (dt : ByteArray) (q : Bool) (p : Addr) (hs : Sh G w0 w hb lim nx lost its) (hF : FullIs w0 p) (hok : TellOk (its, ByteArray.empty) 0) (hv : Count.Vars w0)
    (hkb : kb < w0.heap.size) (hkc : ∀ i, i < ks.length → w0.cell? ⟨kb, ko + i, none⟩ = some (.string (ks.getD i ByteArray.empty))) (hcm : CmdOk (Kind.kindN nm.toList) ks f x n dt) (hl : its.length ≤ 60) (hlim : 0 ≤ lim ∧ lim ≤ 10000) (hnx : 1 ≤ nx ∧ nx ≤ 1000000000) (hlo : 0 ≤ lost ∧ lost ≤ 500) (hnow : 0 ≤ now ∧ now ≤ 1000000000) :
    Calls Tryz.prog 18 #[.pointer (some ⟨hb, 0, none⟩), .int .i64 now, .agg #[.string nm, .slice (some ⟨kb, ko, none⟩) ks.length kc, .int .i64 f, .int .i64 x, .int .i64 n, .string dt, .bool q]] w fun e w' =>
      e = .returned (.string (if q = true then ⟨#[]⟩ else (ansO lim nx its now nm.toList ks f x n dt).ans)) ∧ Shx w0 w' hb lim (ansO lim nx its now nm.toList ks f x n dt).nx (lost + (ansO lim nx its now nm.toList ks f x n dt).lost) (ansO lim nx its now nm.toList ks f x n dt).its := by
  obtain ⟨c1, c2, c3, c4, c5, c6, c7⟩ := hcm
  have hn : (Lit.int .i64 n).wf = true := by
    have e1 : IntKind.i64.min = -9223372036854775808 := rfl
    have e2 : IntKind.i64.max = 9223372036854775807 := rfl
    simp [Lit.wf]; omega
  have HA := hide (fun g1 w1 (h : Sh g1 w0 w1 hb lim nx lost its) => answer_shelf g1 w0 w1 hb lim nx lost its now nm kb ko kc ks f x n dt q p h hF hok hv hkb hkc c1 c2 c3 c4 hl hlim hnx hlo hnow c6 hn)
  generalize ansO lim nx its now nm.toList ks f x n dt = O at HA ⊢
  clear hok hv hkc c1 c2 c3 c4 c5 c6 c7 hn hl hlim hnx hlo hnow
  have hge := hs.bel.size
  have hs4 := ((((hs.guard (boxH hb)).guard (boxN now)).guard (cmdObj nm kb ko ks.length kc f x n dt q)).guard (boxA ⟨#[]⟩)).guard boxF
  simp only [World.size_alloc] at hs4
  have HD := hide (do1_shelf _ w0 _ hb lim nx lost its now nm kb ko kc ks f x n dt q p w.heap.size (w.heap.size + 1) (w.heap.size + 1 + 1) (w.heap.size + 1 + 1 + 1) O hs4 hF mm4 mm3 mm2 mm1 (by omega) (unhide HA))
  have HG := hide (gaveUp_any 47 #[.pointer (some ⟨w.heap.size, 0, none⟩), .pointer (some ⟨w.heap.size + 1, 0, none⟩), .pointer (some ⟨w.heap.size + 1 + 1, 0, none⟩), .pointer (some ⟨w.heap.size + 1 + 1 + 1, 0, none⟩)] ((((w.alloc (boxH hb)).alloc (boxN now)).alloc (cmdObj nm kb ko ks.length kc f x n dt q)).alloc (boxA ⟨#[]⟩)) p
    (fun full w' => ∃ t : ByteArray, (if full = true then fullT else t) = O.ans ∧ Sh [(w.heap.size + 1 + 1 + 1 + 1, boxF), (w.heap.size + 1 + 1 + 1, boxA t), (w.heap.size + 1 + 1, cmdObj nm kb ko ks.length kc f x n dt q)] w0 w' hb lim O.nx (lost + O.lost) O.its)
    (fun w => callF58 _ w) ((unhide HD).mono (by
      intro e w' h
      simp only [World.size_alloc]
      rcases h with ⟨rfl, w1, h1, rfl⟩ | ⟨rfl, h0, h1⟩
      · have h2 := (h1.perm (G' := [(w.heap.size + 1 + 1 + 1, boxA ⟨#[]⟩), (w.heap.size + 1 + 1 + 1 + 1, boxF), (w.heap.size + 1 + 1, cmdObj nm kb ko ks.length kc f x n dt q)]) (sub3 mm1 mm0 mm2)).put (.string O.ans) (by omega) (ne2 (by show w.heap.size + 1 + 1 + 1 + 1 ≠ _; omega) (by show w.heap.size + 1 + 1 ≠ _; omega))
        exact ⟨.inl ⟨rfl, O.ans, rfl, h2.perm (sub3 mm1 mm0 mm2)⟩, h2.box _ mm1, hF.below h2.bel⟩
      · exact ⟨.inr ⟨rfl, ⟨#[]⟩, h0.symm, h1.perm (sub3 mm0 mm1 mm2)⟩, h1.box _ mm0, hF.below h1.bel⟩)))
  simp only [World.size_alloc] at HG
  have hmf : ∀ (fn : Fn) (first cap : Array Value) (w : World), (Instr.makeFunc fn first cap).run Tryz.prog w = .ok (.func fn first cap) w := fun _ _ _ _ => rfl
  clear HA HD hs hs4
  unfold cmdObj boxH boxN boxA at HG
  go_enter Tryz.func18, Tryz.ntmps18
  go_wp2_with fail
  refine (unhide HG).mono ?_
  rintro e w' ⟨full, w1, rfl, ⟨t, ht, h1⟩, rfl⟩
  have h2 := h1.put (.bool full) (by omega) (ne2 (by show w.heap.size + 1 + 1 + 1 ≠ _; omega) (by show w.heap.size + 1 + 1 ≠ _; omega))
  generalize w1.setCell ⟨w.heap.size + 1 + 1 + 1 + 1, 0, none⟩ (.bool full) = w2 at h2 ⊢
  have c6 := cell_of_box (o := 6) (v := .bool q) (h2.box _ mm2) rfl
  have ca := cell_of_box (o := 0) (v := .string t) (h2.box _ mm1) rfl
  have fa := frozen_of_box (o := 0) (h2.box _ mm1)
  dsimp only at c6 ca fa
  have h3 := (h2.perm (G' := (w.heap.size + 1 + 1 + 1, .cells #[.string t] 9) :: []) (sub1 mm1)).put (.string fullT) (by omega) (by simp)
  have HT := hide ht
  have H2 := hide h2
  have H3 := hide h3
  clear h1 h2 h3 ht
  cases full
  · have hE : O.ans = t := (unhide HT).symm
    cases q
    all_goals
      go_wp2
      go_ret
      exact ⟨by first | rfl | (rw [hE]; rfl) | simp [hE], _, unhide H2⟩
  · have hE : O.ans = fullT := (unhide HT).symm
    unfold fullT at H3
    cases q
    all_goals
      go_wp2
      go_ret
      exact ⟨by first | rfl | (rw [hE]; rfl) | simp [hE, fullT], _, unhide H3⟩
end Shelf
end Go.Proofs.YtkdcofmpbmiloaaGreatDoor
/-
  Commands whose keys may be nil: the program's GoodCmd and do, the model's GoodCmd of kind 7 (written by a program of mine).
-/
namespace Go.Proofs.YtkdcofmpbmiloaaGreatDoor
namespace KeysI
open Go.RowKit Base GoodKey GoodCmd
set_option linter.unusedVariables false

set_option maxRecDepth 10000 in
set_option maxHeartbeats 1000000 in
theorem keys_opt (ka : Option Addr) (cap : Nat) (ks : List ByteArray) (lo hi : Int) (w : World) (hc : StrsAt w ka ks) (hl : ks.length ≤ maxLen) (hs : ∀ s ∈ ks, s.size ≤ maxLen) :
    Calls Tryz.prog 39 #[.slice ka ks.length cap, .int .i64 lo, .int .i64 hi] w fun e w' =>
      e = .returned (.bool (inB ks.length lo hi && ks.all gkb)) ∧ Below w.heap.size w w' := by
  unfold maxLen at hl
  by_cases g1 : (ks.length : Int) < lo
  · have H := hide (len_no1 (hi := hi) g1)
    go_enter Tryz.func39, Tryz.ntmps39
    go_wp2
    go_ret
    exact ⟨ret_bool (unhide H).symm, Below.refl _ _⟩
  by_cases g2 : hi < (ks.length : Int)
  · have H := hide (len_no2 (lo := lo) g2)
    go_enter Tryz.func39, Tryz.ntmps39
    go_wp2
    go_ret
    exact ⟨ret_bool (unhide H).symm, Below.refl _ _⟩
  have HL := hide (len_yes g1 g2)
  have hcs := hide hc
  have hss := hide hs
  clear hc hs
  go_enter Tryz.func39, Tryz.ntmps39
  go_wp2
  go_loop [21] (fun i => ∃ k : Nat, k ≤ ks.length ∧ i = .int .i64 k ∧ Hid ((ks.take k).all gkb = true)) (fun i => ks.length - (intOf i).toNat)
  case atStart => exact ⟨0, Nat.zero_le _, rfl, hide rfl⟩
  case round =>
    obtain ⟨k, hk, rfl, ha⟩ := hrel
    by_cases hlt : k < ks.length
    · obtain ⟨b, off, hia, hb, hcq⟩ := unhide hcs (fun e => by rw [e] at hlt; exact absurd hlt (Nat.not_lt_zero _))
      subst hia
      have hck := hcq k hlt
      clear hcq
      have hsk : Hid ((ks.getD k ByteArray.empty).size ≤ maxLen) := unhide hss _ (by rw [List.getD_eq_getElem?_getD, List.getElem?_eq_getElem hlt]; simp)
      have hst := hide (all_step ks k hlt (unhide ha))
      have hbad := hide (all_bad ks k hlt)
      have hgk : ∀ s : ByteArray, Hid (gk s.data.toList = gkb s) := fun s => hide rfl
      generalize ks.getD k ByteArray.empty = s at hck hsk hst hbad
      have hgs := hgk s
      clear hgk
      cases hg : gkb s
      · rw [hg] at hbad hgs
        have H := hide (unhide hbad rfl)
        clear hg hst hbad
        go_wp2_with fail
        refine (GoodKey.impl_any _ _ (unhide hsk)).mono ?_
        rintro e w1 ⟨rfl, rfl⟩
        rw [unhide hgs]
        go_wp2
        go_ret
        exact ⟨ret_bool (by rw [unhide HL]; exact (unhide H).symm), Below.refl _ _⟩
      · rw [hg] at hst hgs
        have H := hide (unhide hst rfl)
        clear hg hst hbad
        go_wp2_with fail
        refine (GoodKey.impl_any _ _ (unhide hsk)).mono ?_
        rintro e w1 ⟨rfl, rfl⟩
        rw [unhide hgs]
        go_wp2
        go_round
        case rel => exact ⟨k + 1, by omega, by go_num, H⟩
        case measure => simp [intOf]; omega
    · have HA := hide (all_whole ks k hk hlt (unhide ha))
      go_wp2
      go_ret
      exact ⟨ret_bool (by rw [unhide HL]; exact (unhide HA).symm), Below.refl _ _⟩
end KeysI
namespace GoodCmdI
open Go.RowKit Base GoodKey Kind GoodCmd
set_option linter.unusedVariables false

set_option maxHeartbeats 4000000 in
theorem impl_opt (nm : ByteArray) (ka : Option Addr) (cap : Nat) (ks : List ByteArray) (f x n : Int) (dt : ByteArray) (q : Bool) (w : World) (hc : StrsAt w ka ks)
    (hl : ks.length ≤ maxLen) (hs : ∀ s ∈ ks, s.size ≤ maxLen) (hd : dt.size ≤ maxLen) :
    Calls Tryz.prog 15 #[.agg #[.string nm, .slice ka ks.length cap, .int .i64 f, .int .i64 x, .int .i64 n, .string dt, .bool q]] w fun e w' =>
      e = .returned (.bool (gcB (kindN nm.toList) ks f x n dt q)) ∧ Below w.heap.size w w' := by
  have hk := kindN_bd nm.toList
  generalize hK : kindN nm.toList = K at hk ⊢
  by_cases hk0 : K = 0
  · subst hk0
    have HK := hide hK
    clear hK hk
    go_enter Tryz.func15, Tryz.ntmps15
    go_wp2_with fail
    refine (Kind.impl_any _ _).mono ?_
    rintro e w1 ⟨rfl, rfl⟩
    rw [unhide HK]
    go_wp2
    go_ret
    exact ⟨rfl, bel1 w _⟩
  have hkb : (K == 0) = false := by simp [hk0]
  have h1 : 1 ≤ K := by omega
  have h7 : K ≤ 7 := hk.2
  have hfc := fun w => form_any K w h1 h7
  have hgc := gcB_form K h1 h7 ks f x n dt q
  generalize formN K = F at hfc hgc
  obtain ⟨lo, hi, bf, bx, bd, bn, bq⟩ := F
  dsimp only at hfc hgc
  have HF := hide hfc
  have HG := hide hgc
  have HK := hide hK
  have HC := hide hc
  have HS := hide hs
  have HL := hide hl
  unfold maxLen at hl hd
  clear hfc hgc hK hc hs hk0 hk
  cases hg : (inB ks.length lo hi && ks.all gkb)
  all_goals
    have Hg := hide hg
    clear hg
    go_enter Tryz.func15, Tryz.ntmps15
    go_wp2_with fail
    refine (Kind.impl_any _ _).mono ?_
    rintro e w1 ⟨rfl, rfl⟩
    rw [unhide HK]
    go_wp2_with fail
    refine (unhide HF _).mono ?_
    rintro e w2 ⟨rfl, hb2⟩
    have hB2 : Hid (Below w.heap.size w w2) := (bel1 w _).trans (hb2.mono (by simp))
    obtain ⟨hc2, hf2⟩ := bcell hb2 (Nat.le_refl _)
    have hz2 : w.heap.size < w2.heap.size := by have := hb2.size; simp at this; omega
    clear hb2
    go_wp2_with fail
    refine (KeysI.keys_opt ka cap ks lo hi _ ((unhide HC).below ((unhide hB2).alloc (by omega) _) (Nat.le_refl _)) (unhide HL) (unhide HS)).mono ?_
    rintro e w3 ⟨rfl, hb3⟩
    have hB3 : Hid (Below w.heap.size w w3) := ((unhide hB2).alloc (by omega) _).trans (hb3.mono (by simp; omega))
    obtain ⟨hc3, hf3⟩ := bcell hb3 (Nat.le_refl _)
    have hz3 : w2.heap.size < w3.heap.size := by have := hb3.size; simp at this; omega
    clear hb3
    rw [unhide Hg]
  · go_wp2
    go_ret
    exact ⟨ret_bool (by rw [unhide HG]; exact form_g (unhide Hg)), unhide hB3⟩
  · go_wp2_with (go_at_call 40; refine (number_any _ _ _).mono ?_; rintro e w4 ⟨rfl, rfl⟩)
    all_goals
      go_ret
      refine ⟨ret_bool ?_, unhide hB3⟩
      rw [unhide HG]
      first
        | exact form_f (Bool.eq_false_iff.2 ‹_›)
        | exact form_x (Bool.eq_false_iff.2 ‹_›)
        | exact form_n (Bool.eq_false_iff.2 ‹_›)
        | exact form_d (dat_non ‹_› ‹_›)
        | skip
    · rw [form_fin (unhide Hg) ‹numB bf f = true› ‹numB bx x = true› ‹numB bn n = true› (dat_zero ‹dt.toList = []›), ‹q = true›]; rfl
    · rw [form_fin (unhide Hg) ‹numB bf f = true› ‹numB bx x = true› ‹numB bn n = true› (dat_zero ‹dt.toList = []›), Bool.eq_false_iff.2 ‹¬ q = true›]; rfl
    · rw [form_fin (unhide Hg) ‹numB bf f = true› ‹numB bx x = true› ‹numB bn n = true› (dat_big ‹bd = true› ‹(dt.size : Int) ≤ 100›), ‹q = true›]; rfl
    · rw [form_fin (unhide Hg) ‹numB bf f = true› ‹numB bx x = true› ‹numB bn n = true› (dat_big ‹bd = true› ‹(dt.size : Int) ≤ 100›), Bool.eq_false_iff.2 ‹¬ q = true›]; rfl
    · exact form_d (dat_no (by omega))
end GoodCmdI
namespace GoodCmd
open Go.RowKit Base GoodKey Kind Num
set_option linter.unusedVariables false

set_option maxHeartbeats 4000000 in
theorem spec_k7_opt (nm : ByteArray) (ka : Option Addr) (cap : Nat) (ks : List ByteArray) (f x n : Int) (dt : ByteArray) (q : Bool) (w : World) (hc : StrsAt w ka ks)
    (hl : ks.length ≤ maxLen) (hs : ∀ s ∈ ks, s.size ≤ maxLen) (hd : dt.size ≤ maxLen) (hK : Hid (kindN nm.toList = 7)) :
    Calls Tryz.prog 22 #[.agg #[.string nm, .slice ka ks.length cap, .int .i64 f, .int .i64 x, .int .i64 n, .string dt, .bool q]] w fun e w' =>
      e = .returned (.bool (gcB 7 ks f x n dt q)) ∧ Below w.heap.size w w' := by
  unfold maxLen at hl hd
  have hcs := hide hc
  have hss := hide hs
  clear hc hs
  go_enter Tryz.func22, Tryz.ntmps22
  go_wp2_with fail
  refine (Kind.spec_any _ _).mono ?_
  rintro e w1 ⟨rfl, rfl⟩
  rw [unhide hK]
  go_wp2_with fail
  go_loop [13] (fun i => ∃ k : Nat, k ≤ ks.length ∧ i = .int .i64 k ∧ Hid ((ks.take k).all gkb = true)) (fun i => ks.length - (intOf i).toNat)
  case atStart => exact ⟨0, Nat.zero_le _, rfl, hide rfl⟩
  case round =>
    obtain ⟨k, hk, rfl, ha⟩ := hrel
    by_cases hlt : k < ks.length
    · obtain ⟨b, off, hia, hb, hcq⟩ := unhide hcs (fun e => by rw [e] at hlt; exact absurd hlt (Nat.not_lt_zero _))
      subst hia
      have hck := hcq k hlt
      clear hcq
      have hsk : Hid ((ks.getD k ByteArray.empty).size ≤ maxLen) := unhide hss _ (by rw [List.getD_eq_getElem?_getD, List.getElem?_eq_getElem hlt]; simp)
      have hst := hide (all_step ks k hlt (unhide ha))
      have hbad := hide (all_bad ks k hlt)
      have hgk : ∀ s : ByteArray, Hid (gk s.data.toList = gkb s) := fun s => hide rfl
      generalize ks.getD k ByteArray.empty = s at hck hsk hst hbad
      have hgs := hgk s
      clear hgk
      have hlt2 : b < w.heap.size := hb
      cases hg : gkb s
      · rw [hg] at hbad hgs
        have H := hide (gcB_bad 7 ks f x n dt q (unhide hbad rfl))
        clear hg hst hbad
        go_wp2_with fail
        refine (GoodKey.spec_any _ _ (unhide hsk)).mono ?_
        rintro e w1 ⟨rfl, rfl⟩
        rw [unhide hgs]
        go_wp2
        go_ret
        exact ⟨ret_bool (unhide H).symm, bel1 w _⟩
      · rw [hg] at hst hgs
        have H := hide (unhide hst rfl)
        clear hg hst hbad
        go_wp2_with fail
        refine (GoodKey.spec_any _ _ (unhide hsk)).mono ?_
        rintro e w1 ⟨rfl, rfl⟩
        rw [unhide hgs]
        go_wp2
        go_round
        case rel => exact ⟨k + 1, by omega, by go_num, H⟩
        case measure => simp [intOf]; omega
    · have HA := hide (all_whole ks k hk hlt (unhide ha))
      go_wp2_with (first | (go_at_call 53; refine (number_any _ _).mono ?_; rintro e w1 ⟨rfl, rfl⟩) | (go_at_call 49; refine (l1In_any _ _ _ _).mono ?_; rintro e w1 ⟨rfl, rfl⟩))
      all_goals
        go_ret
        refine ⟨ret_bool ?_, bel1 w _⟩
        rw [gcB7]
        first
          | exact form_f (num_no ‹_›)
          | exact form_x (num_no ‹_›)
          | exact form_n (num_no ‹_›)
          | exact form_d (dat_no ‹_›)
          | exact form_f (num_not0 ‹_›)
          | exact form_d (dat_not0 ‹_›)
          | exact form_x (num_not0 ‹_›)
          | exact form_n (num_not0 (ne_of ‹_›))
          | skip
      all_goals rw [form_end (unhide HA) (num_zero ‹f = 0›) (num_zero ‹x = 0›) (num_zero (eq_of ‹(n != 0) = false›)) (dat_zero ‹dt.toList = []›)]
      · rw [← zero_len]; simp [‹ks = []›]
      · rw [← zero_len]; simp [‹¬ ks = []›]
end GoodCmd
namespace Shelf
open Go.RowKit Base Items Keep Own Chain Store GoodKey NumText
set_option linter.unusedVariables false

def cmdObjN (nm : ByteArray) (ka : Option Addr) (kc : Nat) (f x n : Int) (dt : ByteArray) (q : Bool) : Obj := .cells #[.string nm, .slice ka 0 kc, .int .i64 f, .int .i64 x, .int .i64 n, .string dt, .bool q] 28
set_option maxRecDepth 10000 in
set_option maxHeartbeats 2000000 in
theorem answer_nil (G : List (Nat × Obj)) (w0 w : World) (hb : Nat) (lim nx lost : Int) (its : List Itm) (now : Int) (nm : ByteArray) (ka : Option Addr) (kc : Nat) (f x n : Int) (dt : ByteArray) (q : Bool) (p : Addr) (hs : Sh G w0 w hb lim nx lost its) (hK : Kind.kindN nm.toList = 7) :
    Calls Tryz.prog 48 #[.pointer (some ⟨hb, 0, none⟩), .int .i64 now, .agg #[.string nm, .slice ka 0 kc, .int .i64 f, .int .i64 x, .int .i64 n, .string dt, .bool q]] w fun e w' =>
      AnsEnd p (ansO lim nx its now nm.toList [] f x n dt).ans e ∧ Sh G w0 w' hb lim (ansO lim nx its now nm.toList [] f x n dt).nx (lost + (ansO lim nx its now nm.toList [] f x n dt).lost) (ansO lim nx its now nm.toList [] f x n dt).its := by
  have HS := hide hs
  have HKD := hide (fun w => Kind.impl_any nm w)
  have HPL := hide (fun w1 (h : Sh G w0 w1 hb lim nx lost its) => sh_plain h nm)
  have hE : ansO lim nx its now nm.toList [] f x n dt = plainO nx its nm.toList := by unfold ansO; rw [hK]; rfl
  rw [hE]
  rw [hK] at HKD
  clear hs hK hE
  go_enter Tryz.func48, Tryz.ntmps48
  go_wp2_with fail
  refine (unhide HKD _).mono ?_
  rintro e w1 ⟨rfl, hw1⟩
  subst hw1
  go_wp2_with fail
  refine (unhide HPL _ ((unhide HS).below (bel1 w _))).mono ?_
  rintro e w2 ⟨rfl, hs2⟩
  have HS2 := hide hs2
  clear hs2
  go_wp2
  go_ret
  exact ⟨.inl rfl, by simpa [plainO_nx, plainO_lost] using unhide HS2⟩

theorem do1_nil (G : List (Nat × Obj)) (w0 w : World) (hb : Nat) (lim nx lost : Int) (its : List Itm) (now : Int) (nm : ByteArray) (ka : Option Addr) (kc : Nat) (f x n : Int) (dt : ByteArray) (q : Bool) (p : Addr) (bh bn bc ba : Nat)
    (O : Out) (hs : Sh G w0 w hb lim nx lost its) (hF : FullIs w0 p) (m1 : (bh, boxH hb) ∈ G) (m2 : (bn, boxN now) ∈ G) (m3 : (bc, cmdObjN nm ka kc f x n dt q) ∈ G) (m4 : (ba, boxA ⟨#[]⟩) ∈ G) (ga : w0.heap.size ≤ ba)
    (hA : ∀ g1 w1, Sh g1 w0 w1 hb lim nx lost its → Calls Tryz.prog 48 #[.pointer (some ⟨hb, 0, none⟩), .int .i64 now, .agg #[.string nm, .slice ka 0 kc, .int .i64 f, .int .i64 x, .int .i64 n, .string dt, .bool q]] w1 fun e w' =>
      AnsEnd p O.ans e ∧ Sh g1 w0 w' hb lim O.nx (lost + O.lost) O.its) :
    Calls Tryz.prog 47 #[.pointer (some ⟨bh, 0, none⟩), .pointer (some ⟨bn, 0, none⟩), .pointer (some ⟨bc, 0, none⟩), .pointer (some ⟨ba, 0, none⟩)] w fun e w' =>
      (e = .returned (.tuple #[]) ∧ ∃ w1, Sh G w0 w1 hb lim O.nx (lost + O.lost) O.its ∧ w' = w1.setCell ⟨ba, 0, none⟩ (.string O.ans)) ∨ (e = .panicked (fullP p) ∧ O.ans = fullT ∧ Sh G w0 w' hb lim O.nx (lost + O.lost) O.its) := by
  have h1 := cell_of_box (o := 0) (hs.box _ m1) rfl
  have h2 := cell_of_box (o := 0) (hs.box _ m2) rfl
  have c0 := cell_of_box (o := 0) (hs.box _ m3) rfl
  have c1 := cell_of_box (o := 1) (hs.box _ m3) rfl
  have c2 := cell_of_box (o := 2) (hs.box _ m3) rfl
  have c3 := cell_of_box (o := 3) (hs.box _ m3) rfl
  have c4 := cell_of_box (o := 4) (hs.box _ m3) rfl
  have c5 := cell_of_box (o := 5) (hs.box _ m3) rfl
  have c6 := cell_of_box (o := 6) (hs.box _ m3) rfl
  have HA := hide (hA G w hs)
  have M4 := hide m4
  clear hA m1 m2 m3 m4 hs
  go_enter Tryz.func47, Tryz.ntmps47
  go_wp2_with fail
  refine (unhide HA).mono ?_
  rintro e w1 ⟨he, hs1⟩
  have ha := cell_of_box (o := 0) (hs1.box _ (unhide M4)) rfl
  have hz : w1.frozen? ⟨ba, 0, none⟩ = false := frozen_of_box (hs1.box _ (unhide M4))
  have HS1 := hide hs1
  clear hs1 h1 h2 c0 c1 c2 c3 c4 c5 c6
  rcases he with rfl | ⟨hfull, rfl⟩
  · go_wp2
    exact bodyPost_end (v := .tuple #[]) (by simp [results, Tryz.results47, go_sem]) rfl (.inl ⟨rfl, w1, unhide HS1, rfl⟩)
  · have HFL := hide hfull
    clear hfull
    go_wp2
    exact ⟨rfl, .inr ⟨rfl, unhide HFL, unhide HS1⟩⟩

set_option maxRecDepth 10000 in
set_option maxHeartbeats 2000000 in
theorem do_nil (G : List (Nat × Obj)) (w0 w : World) (hb : Nat) (lim nx lost : Int) (its : List Itm) (now : Int) (nm : ByteArray) (ka : Option Addr) (kc : Nat) (f x n : Int) (dt : ByteArray) (q : Bool) (p : Addr) (hs : Sh G w0 w hb lim nx lost its) (hF : FullIs w0 p) (hok : TellOk (its, ByteArray.empty) 0) (hv : Count.Vars w0)
    (hK : Kind.kindN nm.toList = 7) (hl : its.length ≤ 60) (hlim : 0 ≤ lim ∧ lim ≤ 10000) (hnx : 1 ≤ nx ∧ nx ≤ 1000000000) (hlo : 0 ≤ lost ∧ lost ≤ 500) (hnow : 0 ≤ now ∧ now ≤ 1000000000) :
    Calls Tryz.prog 18 #[.pointer (some ⟨hb, 0, none⟩), .int .i64 now, .agg #[.string nm, .slice ka 0 kc, .int .i64 f, .int .i64 x, .int .i64 n, .string dt, .bool q]] w fun e w' =>
      e = .returned (.string (if q = true then ⟨#[]⟩ else (ansO lim nx its now nm.toList [] f x n dt).ans)) ∧ Shx w0 w' hb lim (ansO lim nx its now nm.toList [] f x n dt).nx (lost + (ansO lim nx its now nm.toList [] f x n dt).lost) (ansO lim nx its now nm.toList [] f x n dt).its := by
  have HA := hide (fun g1 w1 (h : Sh g1 w0 w1 hb lim nx lost its) => answer_nil g1 w0 w1 hb lim nx lost its now nm ka kc f x n dt q p h hK)
  generalize ansO lim nx its now nm.toList [] f x n dt = O at HA ⊢
  clear hok hv hl hlim hnx hlo hnow hK
  have hge := hs.bel.size
  have hs4 := ((((hs.guard (boxH hb)).guard (boxN now)).guard (cmdObjN nm ka kc f x n dt q)).guard (boxA ⟨#[]⟩)).guard boxF
  simp only [World.size_alloc] at hs4
  have HD := hide (do1_nil _ w0 _ hb lim nx lost its now nm ka kc f x n dt q p w.heap.size (w.heap.size + 1) (w.heap.size + 1 + 1) (w.heap.size + 1 + 1 + 1) O hs4 hF mm4 mm3 mm2 mm1 (by omega) (unhide HA))
  have HG := hide (gaveUp_any 47 #[.pointer (some ⟨w.heap.size, 0, none⟩), .pointer (some ⟨w.heap.size + 1, 0, none⟩), .pointer (some ⟨w.heap.size + 1 + 1, 0, none⟩), .pointer (some ⟨w.heap.size + 1 + 1 + 1, 0, none⟩)] ((((w.alloc (boxH hb)).alloc (boxN now)).alloc (cmdObjN nm ka kc f x n dt q)).alloc (boxA ⟨#[]⟩)) p
    (fun full w' => ∃ t : ByteArray, (if full = true then fullT else t) = O.ans ∧ Sh [(w.heap.size + 1 + 1 + 1 + 1, boxF), (w.heap.size + 1 + 1 + 1, boxA t), (w.heap.size + 1 + 1, cmdObjN nm ka kc f x n dt q)] w0 w' hb lim O.nx (lost + O.lost) O.its)
    (fun w => callF58 _ w) ((unhide HD).mono (by
      intro e w' h
      simp only [World.size_alloc]
      rcases h with ⟨rfl, w1, h1, rfl⟩ | ⟨rfl, h0, h1⟩
      · have h2 := (h1.perm (G' := [(w.heap.size + 1 + 1 + 1, boxA ⟨#[]⟩), (w.heap.size + 1 + 1 + 1 + 1, boxF), (w.heap.size + 1 + 1, cmdObjN nm ka kc f x n dt q)]) (sub3 mm1 mm0 mm2)).put (.string O.ans) (by omega) (ne2 (by show w.heap.size + 1 + 1 + 1 + 1 ≠ _; omega) (by show w.heap.size + 1 + 1 ≠ _; omega))
        exact ⟨.inl ⟨rfl, O.ans, rfl, h2.perm (sub3 mm1 mm0 mm2)⟩, h2.box _ mm1, hF.below h2.bel⟩
      · exact ⟨.inr ⟨rfl, ⟨#[]⟩, h0.symm, h1.perm (sub3 mm0 mm1 mm2)⟩, h1.box _ mm0, hF.below h1.bel⟩)))
  simp only [World.size_alloc] at HG
  have hmf : ∀ (fn : Fn) (first cap : Array Value) (w : World), (Instr.makeFunc fn first cap).run Tryz.prog w = .ok (.func fn first cap) w := fun _ _ _ _ => rfl
  clear HA HD hs hs4
  unfold cmdObjN boxH boxN boxA at HG
  go_enter Tryz.func18, Tryz.ntmps18
  go_wp2_with fail
  refine (unhide HG).mono ?_
  rintro e w' ⟨full, w1, rfl, ⟨t, ht, h1⟩, rfl⟩
  have h2 := h1.put (.bool full) (by omega) (ne2 (by show w.heap.size + 1 + 1 + 1 ≠ _; omega) (by show w.heap.size + 1 + 1 ≠ _; omega))
  generalize w1.setCell ⟨w.heap.size + 1 + 1 + 1 + 1, 0, none⟩ (.bool full) = w2 at h2 ⊢
  have c6 := cell_of_box (o := 6) (v := .bool q) (h2.box _ mm2) rfl
  have ca := cell_of_box (o := 0) (v := .string t) (h2.box _ mm1) rfl
  have fa := frozen_of_box (o := 0) (h2.box _ mm1)
  dsimp only at c6 ca fa
  have h3 := (h2.perm (G' := (w.heap.size + 1 + 1 + 1, .cells #[.string t] 9) :: []) (sub1 mm1)).put (.string fullT) (by omega) (by simp)
  have HT := hide ht
  have H2 := hide h2
  have H3 := hide h3
  clear h1 h2 h3 ht
  cases full
  · have hE : O.ans = t := (unhide HT).symm
    cases q
    all_goals
      go_wp2
      go_ret
      exact ⟨by first | rfl | (rw [hE]; rfl) | simp [hE], _, unhide H2⟩
  · have hE : O.ans = fullT := (unhide HT).symm
    unfold fullT at H3
    cases q
    all_goals
      go_wp2
      go_ret
      exact ⟨by first | rfl | (rw [hE]; rfl) | simp [hE, fullT], _, unhide H3⟩
end Shelf
end Go.Proofs.YtkdcofmpbmiloaaGreatDoor
/-
  A good store stays good, whatever a good command does to it: plain.
-/
namespace Go.Proofs.YtkdcofmpbmiloaaGreatDoor
namespace Stk
open Go.RowKit Base Items Store GoodKey
open _root_.Go.Proofs.YtkdcofmpbmiloaaGreatDoor.Shelf
set_option linter.unusedVariables false

/-- What the items of a good store keep. -/
structure Gd (nx : Int) (its : List Itm) : Prop where
  ok : ∀ x ∈ its, okB nx x = true
  k : (its.map kL).Nodup
  t : (its.map tL).Nodup
theorem gd_iff (nx : Int) (its : List Itm) : goodTo nx its its.length = true ↔ Gd nx its := by
  rw [goodTo_iff nx its its.length (Nat.le_refl _), List.take_length]
  constructor
  · rintro ⟨h1, h2, h3⟩
    refine ⟨fun x hx => ?_, h2, h3⟩
    obtain ⟨i, hi, rfl⟩ := List.getElem_of_mem hx
    have := h1 i hi
    rwa [List.getD_eq_getElem?_getD, List.getElem?_eq_getElem hi] at this
  · rintro ⟨h1, h2, h3⟩
    refine ⟨fun i hi => ?_, h2, h3⟩
    rw [List.getD_eq_getElem?_getD, List.getElem?_eq_getElem hi]
    exact h1 _ (List.getElem_mem _)
theorem gs_iff (lim nx : Int) (its : List Itm) : gsB lim nx its = true ↔ (0 ≤ lim ∧ lim ≤ 10000) ∧ (1 ≤ nx ∧ nx ≤ 1000000000) ∧ its.length ≤ 60 ∧ Gd nx its ∧ total its ≤ lim := by
  unfold gsB inB
  rw [← gd_iff]
  simp only [Bool.and_eq_true, decide_eq_true_eq]
  constructor
  · rintro ⟨⟨⟨⟨h1, h2⟩, h3⟩, h4⟩, h5⟩
    exact ⟨h1, h2, by omega, h4, h5⟩
  · rintro ⟨h1, h2, h3, h4, h5⟩
    exact ⟨⟨⟨⟨h1, h2⟩, by omega⟩, h4⟩, h5⟩
theorem Gd.sub {nx : Int} {a b : List Itm} (h : Gd nx b) (hs : a.Sublist b) : Gd nx a :=
  ⟨fun x hx => h.ok x (hs.subset hx), h.k.sublist (hs.map _), h.t.sublist (hs.map _)⟩
theorem total_sub {a b : List Itm} (hs : a.Sublist b) : total a ≤ total b := by
  induction hs with
  | slnil => exact Int.le_refl _
  | cons x _ ih => simp only [total, charge]; omega
  | cons_cons x _ ih => simp only [total, charge]; omega
theorem total_perm {a b : List Itm} (hp : a.Perm b) : total a = total b := by
  induction hp with
  | nil => rfl
  | cons x _ ih => simp only [total, ih]
  | swap x y l => simp only [total]; omega
  | trans _ _ h1 h2 => exact h1.trans h2
theorem erase_perm {l : List Itm} {k : Nat} (hk : k < l.length) : (l.eraseIdx k ++ [l.getD k zero]).Perm l := by
  rw [List.eraseIdx_eq_take_drop_succ, List.getD_eq_getElem?_getD, List.getElem?_eq_getElem hk, Option.getD_some]
  have e : l = l.take k ++ l[k] :: l.drop (k + 1) := by rw [← List.drop_eq_getElem_cons hk, List.take_append_drop]
  conv => rhs; rw [e]
  rw [List.append_assoc]
  exact List.Perm.append_left _ (List.perm_append_singleton _ _)
theorem Gd.perm {nx : Int} {a b : List Itm} (h : Gd nx b) (hp : a.Perm b) : Gd nx a :=
  ⟨fun x hx => h.ok x (hp.subset hx), ((hp.map _).nodup_iff).2 h.k, ((hp.map _).nodup_iff).2 h.t⟩
theorem at_lt {its : List Itm} {key : ByteArray} {k : Nat} (h : atN its key = some k) : k < its.length ∧ hasKey key (its.getD k zero) = true := by
  unfold atN at h
  obtain ⟨h1, h2, _⟩ := List.findIdx?_eq_some_iff_getElem.1 h
  exact ⟨h1, by rw [List.getD_eq_getElem?_getD, List.getElem?_eq_getElem h1]; exact h2⟩
theorem tell1_gd {nx lim : Int} {token : Bool} {st : List Itm × ByteArray} {key : ByteArray} (h : Gd nx st.1 ∧ st.1.length ≤ 60 ∧ total st.1 ≤ lim) : Gd nx (tell1 token st key).1 ∧ (tell1 token st key).1.length ≤ 60 ∧ total (tell1 token st key).1 ≤ lim := by
  unfold tell1
  cases e : atN st.1 key with
  | none => exact h
  | some k =>
    have hp := erase_perm (at_lt e).1
    exact ⟨h.1.perm hp, by rw [hp.length_eq]; exact h.2.1, by rw [total_perm hp]; exact h.2.2⟩
theorem tellK_gd {nx lim : Int} {token : Bool} : ∀ (ks : List ByteArray) {st : List Itm × ByteArray}, (Gd nx st.1 ∧ st.1.length ≤ 60 ∧ total st.1 ≤ lim) → Gd nx (ks.foldl (tell1 token) st).1 ∧ (ks.foldl (tell1 token) st).1.length ≤ 60 ∧ total (ks.foldl (tell1 token) st).1 ≤ lim
  | [], _, h => h
  | k :: r, _, h => tellK_gd r (tell1_gd h)
theorem without_sub (its : List Itm) (key : ByteArray) : (without its key).Sublist its := by
  unfold without
  cases atN its key with
  | none => exact List.Sublist.refl _
  | some k => exact List.eraseIdx_sublist _ _
theorem not_key {its : List Itm} (hk : (its.map kL).Nodup) (key : ByteArray) : ∀ x ∈ without its key, x.key ≠ key := by
  intro x hx he
  unfold without at hx
  cases e : atN its key with
  | none =>
    rw [e] at hx
    unfold atN at e
    have := List.findIdx?_eq_none_iff.1 e x hx
    rw [(hasKey_iff key x).2 he] at this
    cases this
  | some k =>
    rw [e] at hx
    obtain ⟨h1, h2⟩ := at_lt e
    have h3 : (its.getD k zero).key = key := (hasKey_iff _ _).1 h2
    have hp := (erase_perm h1).map kL
    have hn := hp.nodup_iff.2 hk
    rw [List.map_append, List.nodup_append] at hn
    change x ∈ its.eraseIdx k at hx
    exact hn.2.2 (kL x) (List.mem_map_of_mem hx) (kL (its.getD k zero)) (List.mem_singleton.2 rfl) (by unfold kL; rw [h3, he])
theorem trim_fits {lim : Int} (h : 0 ≤ lim) : ∀ l : List Itm, fitsB lim (l.drop (trimN lim l)) = true
  | [] => by simp [fitsB, total, h]
  | x :: r => by
    rw [trimN]
    split
    · rename_i hf; exact hf
    · rw [List.drop_succ_cons]; exact trim_fits h r
theorem trim_last {lim : Int} {y : Itm} (h : fitsB lim [y] = true) : ∀ l : List Itm, trimN lim (l ++ [y]) ≤ l.length
  | [] => by rw [List.nil_append, trimN_fit h]; simp
  | x :: r => by
    rw [List.cons_append, trimN]
    split
    · omega
    · have := trim_last h r; rw [List.length_cons]; omega
theorem mono_ok {nx : Int} {x : Itm} (h : okB nx x = true) : okB (nx + 1) x = true := by
  unfold okB at *
  simp only [Bool.and_eq_true, decide_eq_true_eq] at *
  exact ⟨h.1, by omega⟩
theorem put_gd {lim nx : Int} {its : List Itm} {x : Itm} {r : List Itm} {n : Nat} (h : Gd nx its) (hl : 0 ≤ lim) (hnx : 1 ≤ nx ∧ nx ≤ 1000000000) (hx : itemB { x with token := 1 } = true) (hp : putR lim nx its x = some (r, n)) : Gd (nx + 1) r ∧ r.length ≤ 60 ∧ total r ≤ lim ∧ nx + 1 ≤ 1000000000 := by
  unfold putR at hp
  split at hp
  · cases hp
  rename_i hc
  have hn : nx ≠ 1000000000 := fun e => hc (.inr e)
  simp only [Option.some.injEq, Prod.mk.injEq] at hp
  obtain ⟨rfl, -⟩ := hp
  have hf := trim_fits hl (without its x.key ++ [{ x with token := nx }])
  unfold fitsB at hf
  simp only [Bool.and_eq_true, decide_eq_true_eq] at hf
  refine ⟨?_, by omega, hf.1, by omega⟩
  refine Gd.sub (b := without its x.key ++ [{ x with token := nx }]) ?_ (List.drop_sublist _ _)
  have hw := h.sub (without_sub its x.key)
  have hk := not_key h.k x.key
  refine ⟨fun y hy => ?_, ?_, ?_⟩
  · rcases List.mem_append.1 hy with hy | hy
    · exact mono_ok (hw.ok y hy)
    · rw [List.mem_singleton] at hy
      subst hy
      unfold okB itemB inB at *
      simp only [Bool.and_eq_true, decide_eq_true_eq] at *
      refine ⟨⟨hx.1, ?_⟩, ?_⟩ <;> omega
  · rw [List.map_append, List.nodup_append]
    refine ⟨hw.k, by simp, fun a ha b hb => ?_⟩
    obtain ⟨y, hy, rfl⟩ := List.mem_map.1 ha
    rw [List.map_singleton, List.mem_singleton] at hb
    rw [hb]
    intro e
    exact hk y hy (kk_inj e)
  · rw [List.map_append, List.nodup_append]
    refine ⟨hw.t, by simp, fun a ha b hb => ?_⟩
    obtain ⟨y, hy, rfl⟩ := List.mem_map.1 ha
    rw [List.map_singleton, List.mem_singleton] at hb
    rw [hb]
    intro e
    have h1 := hw.ok y hy
    unfold okB at h1
    simp only [Bool.and_eq_true, decide_eq_true_eq] at h1
    unfold tL at e
    simp at e
    omega
theorem item_with {x : Itm} {t : Int} (h : itemB { x with token := t } = true) : itemB { x with token := 1 } = true := by
  unfold itemB inB at *
  simp only [Bool.and_eq_true, decide_eq_true_eq] at *
  exact ⟨h.1, by omega⟩
theorem putO_gs {lim nx : Int} {its : List Itm} {x : Itm} {ans : ByteArray} (h : gsB lim nx its = true) (hx : itemB { x with token := 1 } = true) : gsB lim (putO lim nx its x ans).nx (putO lim nx its x ans).its = true := by
  unfold putO
  cases e : putR lim nx its x with
  | none => exact h
  | some v =>
    obtain ⟨r, n⟩ := v
    obtain ⟨h1, h2, h3, h4, h5⟩ := (gs_iff _ _ _).1 h
    obtain ⟨g1, g2, g3, g4⟩ := put_gd h4 h1.1 h2 hx e
    exact (gs_iff _ _ _).2 ⟨h1, ⟨by show 1 ≤ nx + 1; omega, g4⟩, g2, g1, g3⟩
theorem at_ok {nx : Int} {its : List Itm} {key : ByteArray} {k : Nat} (h : Gd nx its) (e : atN its key = some k) : itemB (its.getD k zero) = true := by
  have h1 := (at_lt e).1
  have := h.ok (its.getD k zero) (by rw [List.getD_eq_getElem?_getD, List.getElem?_eq_getElem h1]; exact List.getElem_mem _)
  unfold okB at this
  simp only [Bool.and_eq_true] at this
  exact this.1
/-- What a good command's key, flags, expiry and data are. -/
structure Cg (key : ByteArray) (f x : Int) (dt : ByteArray) : Prop where
  k : gk key.data.toList = true
  f : 0 ≤ f ∧ f ≤ 1000000000
  x : 0 ≤ x ∧ x ≤ 1000000000
  d : dt.size ≤ 100
theorem until_bd {now x : Int} (h1 : 0 ≤ now ∧ now ≤ 1000000000) (h2 : 0 ≤ x ∧ x ≤ 1000000000) : 0 ≤ untilR now x ∧ untilR now x ≤ 2000000000 := by
  unfold untilR
  split <;> omega
theorem item_new {now : Int} {key : ByteArray} {f x : Int} {dt : ByteArray} {t : Int} (h1 : 0 ≤ now ∧ now ≤ 1000000000) (hc : Cg key f x dt) : itemB { key := key, flags := f, data := dt, upto := untilR now x, token := 1 } = true := by
  have := until_bd h1 hc.x
  have h2 := hc.f
  have h3 := hc.d
  unfold itemB inB
  simp only [Bool.and_eq_true, decide_eq_true_eq]
  exact ⟨⟨⟨⟨hc.k, h2⟩, by omega⟩, this⟩, by omega⟩
theorem item_data {o : Itm} {d : ByteArray} (h : itemB o = true) (hd : d.size ≤ 100) : itemB { o with data := d, token := 1 } = true := by
  unfold itemB inB at *
  simp only [Bool.and_eq_true, decide_eq_true_eq] at *
  exact ⟨⟨⟨h.1.1.1, by omega⟩, h.1.2⟩, by omega⟩
theorem setO_gs {lim nx : Int} {its : List Itm} {now : Int} {nm : List UInt8} {key : ByteArray} {f x n : Int} {dt : ByteArray} (h : gsB lim nx its = true) (h1 : 0 ≤ now ∧ now ≤ 1000000000) (hc : Cg key f x dt) : gsB lim (setO lim nx its now nm key f x n dt).nx (setO lim nx its now nm key f x n dt).its = true := by
  unfold setO
  split
  · rename_i hr
    split
    · rename_i hd
      refine putO_gs h ?_
      have hg := ((gs_iff _ _ _).1 h).2.2.2.1
      have hold : (atN its key).isSome = true → itemB (oldO its key) = true := fun hs => by
        obtain ⟨k, e⟩ := Option.isSome_iff_exists.1 hs
        unfold oldO
        rw [e]
        exact at_ok hg e
      unfold itemR at hd ⊢
      split at hd
      · rename_i ha
        rw [if_pos ha]
        refine item_data (o := oldO its key) (d := (oldO its key).data ++ dt) (hold ?_) hd
        cases hi : (atN its key).isSome
        · rw [hi, ha] at hr
          exact absurd (show notStoredT = (⟨#[]⟩ : ByteArray) from hr) (by decide)
        · rfl
      · rename_i ha
        split at hd
        · rename_i hp
          rw [if_neg ha, if_pos hp]
          refine item_data (o := oldO its key) (d := dt ++ (oldO its key).data) (hold ?_) hd
          cases hi : (atN its key).isSome
          · rw [hi, hp] at hr
            exact absurd (show notStoredT = (⟨#[]⟩ : ByteArray) from hr) (by decide)
          · rfl
        · rename_i hp
          rw [if_neg ha, if_neg hp]
          exact item_new (t := 1) h1 hc
    · exact h
  · exact h
theorem count_gs {lim nx : Int} {its : List Itm} {nm : List UInt8} {key : ByteArray} {n : Int} (h : gsB lim nx its = true) : gsB lim (countO lim nx its nm key n).nx (countO lim nx its nm key n).its = true := by
  unfold countO
  cases e : atN its key with
  | none => exact h
  | some k =>
    dsimp only
    unfold countX
    cases e2 : Count.countB (its.getD k zero).data.data.toList n (nm == [100, 101, 99, 114]) with
    | none => exact h
    | some t =>
      dsimp only
      have hg := ((gs_iff _ _ _).1 h).2.2.2.1
      exact putO_gs h (item_data (o := its.getD k zero) (d := t) (at_ok hg e) (by have := count_size e2; omega))
theorem touch_gs {lim nx : Int} {its : List Itm} {now : Int} {key : ByteArray} {x : Int} (h : gsB lim nx its = true) (h1 : 0 ≤ now ∧ now ≤ 1000000000) (hx : 0 ≤ x ∧ x ≤ 1000000000) : gsB lim (touchO nx its now key x).nx (touchO nx its now key x).its = true := by
  unfold touchO
  cases e : atN its key with
  | none => exact h
  | some k =>
    dsimp only
    obtain ⟨g1, g2, g3, g4, g5⟩ := (gs_iff _ _ _).1 h
    have hk := (at_lt e).1
    have hp := erase_perm hk
    have hq := g4.perm hp
    have hu := until_bd h1 hx
    refine (gs_iff _ _ _).2 ⟨g1, g2, ?_, ⟨fun y hy => ?_, ?_, ?_⟩, ?_⟩
    · have := hp.length_eq
      simp only [List.length_append, List.length_singleton] at this ⊢
      omega
    · rcases List.mem_append.1 hy with hy | hy
      · exact hq.ok y (List.mem_append_left _ hy)
      · rw [List.mem_singleton] at hy
        subst hy
        have := hq.ok (its.getD k zero) (List.mem_append_right _ (by simp))
        unfold okB itemB inB at *
        simp only [Bool.and_eq_true, decide_eq_true_eq] at *
        exact ⟨⟨⟨this.1.1.1, hu⟩, this.1.2⟩, this.2⟩
    · have := hq.k
      rw [List.map_append] at this ⊢
      exact this
    · have := hq.t
      rw [List.map_append] at this ⊢
      exact this
    · have := total_perm hp
      rw [total_append] at this ⊢
      simp only [total, charge] at this ⊢
      omega
theorem keep_gs {lim nx : Int} {its : List Itm} (h : gsB lim nx its = true) (now : Int) : gsB lim nx (keepB its now) = true := by
  obtain ⟨g1, g2, g3, g4, g5⟩ := (gs_iff _ _ _).1 h
  have hs : (keepB its now).Sublist its := List.filter_sublist
  have := total_sub hs
  have := hs.length_le
  exact (gs_iff _ _ _).2 ⟨g1, g2, by omega, g4.sub hs, by omega⟩
theorem cg_of {K : Int} {ks : List ByteArray} {f x n : Int} {dt : ByteArray} {q : Bool} (h : GoodCmd.gcB K ks f x n dt q = true) (hK : 2 ≤ K ∧ K ≤ 6) : Cg (ks.getD 0 ByteArray.empty) f x dt := by
  obtain ⟨c1, c2, c3, c4, c5, c6, c7⟩ := cmd_ok h
  have hpos := c3 hK
  have ha : ks.all GoodCmd.gkb = true := by
    cases e : ks.all GoodCmd.gkb
    · rw [GoodCmd.gcB_bad K ks f x n dt q e] at h; cases h
    · rfl
  rw [List.all_eq_true] at ha
  have h0 := ha (ks.getD 0 ByteArray.empty) (by rw [List.getD_eq_getElem?_getD, List.getElem?_eq_getElem hpos]; exact List.getElem_mem _)
  exact ⟨h0, c5, c6, c4⟩
theorem ans_gs {lim nx : Int} {its : List Itm} {now : Int} {nm : List UInt8} {ks : List ByteArray} {f x n : Int} {dt : ByteArray} {q : Bool} (h : gsB lim nx its = true) (h1 : 0 ≤ now ∧ now ≤ 1000000000) (hc : GoodCmd.gcB (Kind.kindN nm) ks f x n dt q = true) : gsB lim (ansO lim nx its now nm ks f x n dt).nx (ansO lim nx its now nm ks f x n dt).its = true := by
  obtain ⟨g1, g2, g3, g4, g5⟩ := (gs_iff _ _ _).1 h
  have hb := Kind.kindN_bd nm
  unfold ansO
  split
  · have := tellK_gd (nx := nx) (lim := lim) (token := (nm == [103, 101, 116, 115])) ks (st := (its, ByteArray.empty)) ⟨g4, g3, g5⟩
    exact (gs_iff _ _ _).2 ⟨g1, g2, this.2.1, this.1, this.2.2⟩
  split
  · exact setO_gs h h1 (cg_of hc (by omega))
  split
  · exact setO_gs h h1 (cg_of hc (by omega))
  split
  · exact count_gs h
  split
  · exact touch_gs h h1 (cg_of hc (by omega)).x
  split
  · have hs := without_sub its (ks.getD 0 ByteArray.empty)
    have h3 := total_sub hs
    have h4 := hs.length_le
    exact (gs_iff _ _ _).2 ⟨g1, g2, by show (without its _).length ≤ 60; omega, g4.sub hs, by show total (without its _) ≤ lim; omega⟩
  · unfold plainO
    split
    · exact (gs_iff _ _ _).2 ⟨g1, g2, by simp, ⟨by simp, by simp, by simp⟩, by simp [total]; omega⟩
    · split <;> exact h
/-- What is left is a good store, with the limit as it was. -/
theorem do_gs {lim nx : Int} {its : List Itm} {now : Int} {nm : List UInt8} {ks : List ByteArray} {f x n : Int} {dt : ByteArray} {q : Bool} (h : (doR lim nx its now nm ks f x n dt q).ok = true) : gsB (doR lim nx its now nm ks f x n dt q).lim (doR lim nx its now nm ks f x n dt q).nx (doR lim nx its now nm ks f x n dt q).its = true ∧ (doR lim nx its now nm ks f x n dt q).lim = lim ∧ gsB lim nx its = true ∧ (0 ≤ now ∧ now ≤ 1000000000) ∧ GoodCmd.gcB (Kind.kindN nm) ks f x n dt q = true := by
  unfold doR at h ⊢
  split at h
  · rename_i h1
    rw [if_pos h1]
    split at h
    · rename_i h2
      rw [if_pos h2]
      split at h
      · rename_i h3
        rw [if_pos h3]
        have hn := inB_iff h2
        exact ⟨ans_gs (keep_gs h1 now) hn h3, rfl, h1, hn, h3⟩
      · cases h
    · cases h
  · cases h
theorem do_no {lim nx : Int} {its : List Itm} {now : Int} {nm : List UInt8} {ks : List ByteArray} {f x n : Int} {dt : ByteArray} {q : Bool} (h : (doR lim nx its now nm ks f x n dt q).ok = false) : (doR lim nx its now nm ks f x n dt q).ans = ⟨#[]⟩ := by
  unfold doR at h ⊢
  split
  · rename_i h1
    rw [if_pos h1] at h
    split
    · rename_i h2
      rw [if_pos h2] at h
      split
      · rename_i h3
        rw [if_pos h3] at h
        cases h
      · rfl
    · rfl
  · rfl
/-- What was set stands there. -/
theorem set_there {lim nx : Int} {its : List Itm} {now : Int} {ks : List ByteArray} {f x n : Int} {dt : ByteArray} (h : (doR lim nx its now [115, 101, 116] ks f x n dt false).ok = true) (ha : (doR lim nx its now [115, 101, 116] ks f x n dt false).ans = storedT) :
    ∃ y, findB lim (doR lim nx its now [115, 101, 116] ks f x n dt false).nx (doR lim nx its now [115, 101, 116] ks f x n dt false).its now (ks.getD 0 ByteArray.empty) = some y ∧ y.data = dt ∧ y.flags = f ∧ y.token = nx ∧ (y.upto = 0 ↔ x = 0) := by
  obtain ⟨hg, hl, hs, hn, hc⟩ := do_gs h
  have hK : Kind.kindN [115, 101, 116] = 2 := by decide
  have hcg := cg_of hc (by rw [hK]; omega)
  have e : doR lim nx its now [115, 101, 116] ks f x n dt false = yesDone lim false (ansO lim nx (keepB its now) now [115, 101, 116] ks f x n dt) := by
    unfold doR
    rw [if_pos hs, if_pos (by unfold inB; simp only [Bool.and_eq_true, decide_eq_true_eq]; exact hn), if_pos hc]
  rw [e] at hg ha ⊢
  have e2 : ansO lim nx (keepB its now) now [115, 101, 116] ks f x n dt = setO lim nx (keepB its now) now [115, 101, 116] (ks.getD 0 ByteArray.empty) f x n dt := by
    unfold ansO
    rw [if_neg (by rw [hK]; decide), if_pos hK]
  rw [e2] at hg ha ⊢
  have e3 : setO lim nx (keepB its now) now [115, 101, 116] (ks.getD 0 ByteArray.empty) f x n dt = putO lim nx (keepB its now) { key := ks.getD 0 ByteArray.empty, flags := f, data := dt, upto := untilR now x, token := 0 } storedT := by
    unfold setO
    rw [if_pos (by unfold refusalR; simp)]
    have ei : itemR now [115, 101, 116] (ks.getD 0 ByteArray.empty) f x dt (oldO (keepB its now) (ks.getD 0 ByteArray.empty)) = { key := ks.getD 0 ByteArray.empty, flags := f, data := dt, upto := untilR now x, token := 0 } := by
      unfold itemR
      rw [if_neg (by decide), if_neg (by decide)]
    rw [ei, if_pos hcg.d]
  rw [e3] at hg ha ⊢
  generalize hkey : ks.getD 0 ByteArray.empty = key at *
  obtain ⟨Y, hY⟩ : ∃ Y : Itm, Y = { key := key, flags := f, data := dt, upto := untilR now x, token := 0 } := ⟨_, rfl⟩
  rw [← hY] at hg ha ⊢
  unfold putO at hg ha ⊢
  have hYk : Y.key = key := by rw [hY]
  cases ep : putR lim nx (keepB its now) Y with
  | none =>
    rw [ep] at ha
    exact absurd (show fullT = storedT from ha) (by decide)
  | some v =>
    obtain ⟨r, m⟩ := v
    rw [ep] at hg
    replace hg : gsB lim (nx + 1) r = true := hg
    have hk := keep_gs hs now
    obtain ⟨g1, g2, g3, g4, g5⟩ := (gs_iff _ _ _).1 hk
    unfold putR at ep
    split at ep
    · cases ep
    rename_i hcx
    simp only [Option.some.injEq, Prod.mk.injEq] at ep
    obtain ⟨er, -⟩ := ep
    have hfit : fitsB lim [{ Y with token := nx }] = true := by
      have hch : charge Y ≤ lim := by
        rcases Int.lt_or_le lim (charge Y) with h | h
        · exact absurd (.inl h) hcx
        · exact h
      have hch2 : total [{ Y with token := nx }] ≤ lim := by
        simp only [total, charge] at hch ⊢
        omega
      unfold fitsB
      simp only [Bool.and_eq_true, decide_eq_true_eq]
      exact ⟨hch2, by simp⟩
    have htl := trim_last hfit (without (keepB its now) Y.key)
    have hnk := not_key g4.k Y.key
    rw [List.drop_append_of_le_length htl] at er
    obtain ⟨l, hl2⟩ : ∃ l, l = (without (keepB its now) Y.key).drop (trimN lim (without (keepB its now) Y.key ++ [{ Y with token := nx }])) := ⟨_, rfl⟩
    rw [← hl2] at er
    have hln : ∀ z ∈ l, z.key ≠ Y.key := fun z hz => hnk z (by rw [hl2] at hz; exact List.mem_of_mem_drop hz)
    have hat : atN r key = some l.length := by
      rw [← er]
      refine atN_hit (by simp) (fun j hj => ?_) ?_
      · rw [List.getD_eq_getElem?_getD, List.getElem?_append_left hj, List.getElem?_eq_getElem hj, Option.getD_some]
        cases eh : hasKey key l[j]
        · rfl
        · exact absurd ((hasKey_iff _ _).1 eh) (by rw [← hYk]; exact hln _ (List.getElem_mem hj))
      · rw [List.getD_eq_getElem?_getD, List.getElem?_append_right (Nat.le_refl _)]
        simp [hasKey_iff, hYk]
    have hgd : r.getD l.length zero = { Y with token := nx } := by
      rw [← er, List.getD_eq_getElem?_getD, List.getElem?_append_right (Nat.le_refl _)]
      simp
    refine ⟨{ Y with token := nx }, ?_, by rw [hY], by rw [hY], rfl, ?_⟩
    · unfold findB
      show (if gsB lim (nx + 1) r = true then _ else _) = _
      rw [if_pos hg, if_pos (by unfold inB; simp only [Bool.and_eq_true, decide_eq_true_eq]; exact hn)]
      show (match atN r key with | some k => if oldB (r.getD k zero) now = true then none else some (r.getD k zero) | none => none) = _
      rw [hat]
      show (if oldB (r.getD l.length zero) now = true then none else some (r.getD l.length zero)) = _
      rw [hgd, if_neg]
      unfold oldB
      rw [hY]
      show ¬ ((untilR now x != 0) && decide (untilR now x ≤ now)) = true
      have := hcg.x
      unfold untilR
      split
      · simp
      · simp; omega
    · rw [hY]
      show untilR now x = 0 ↔ x = 0
      have := hcg.x
      unfold untilR
      split
      · rename_i h0; exact ⟨fun _ => h0, fun _ => rfl⟩
      · rename_i h0; exact ⟨fun h => by omega, fun h => absurd h h0⟩
end Stk
end Go.Proofs.YtkdcofmpbmiloaaGreatDoor
/-
  The program's DoStore: what it answers, and what it leaves in memory.
-/
namespace Go.Proofs.YtkdcofmpbmiloaaGreatDoor
namespace Shelf
open Go.RowKit Base Items Keep Own Chain Store GoodKey NumText
set_option linter.unusedVariables false

theorem sh_mk {w0 w : World} {hb : Nat} {S : List Nat} {lim nx lost : Int} {its : List Itm} (h : Shelf w hb S lim nx lost its) (hS : ∀ b ∈ S, w0.heap.size ≤ b) (hb0 : Below w0.heap.size w0 w) (h0 : 0 < w0.heap.size) : Shx w0 w hb lim nx lost its := by
  exact ⟨[], S, h, fun b hm => ⟨hS b hm, fun g hg => absurd hg (by simp)⟩, hb0, fun g hg => absurd hg (by simp)⟩
theorem Shx.step {w0 w w' : World} {hb : Nat} {S : List Nat} {lim nx lost : Int} {its : List Itm} (hS : ∀ b ∈ S, w0.heap.size ≤ b) (hb0 : Below w0.heap.size w0 w) (h0 : 0 < w0.heap.size) (hst : Step w w' hb S lim nx lost its) : Shx w0 w' hb lim nx lost its := by
  obtain ⟨S', hs', hS', hk⟩ := hst
  exact sh_mk hs' (fun b h => (hS' b h).elim (hS b) (fun h => Nat.le_trans hb0.size h)) (hb0.trans (hk.below hS hb0.size)) h0
theorem Shx.bel {w0 w : World} {hb : Nat} {lim nx lost : Int} {its : List Itm} (h : Shx w0 w hb lim nx lost its) : Below w0.heap.size w0 w := by
  obtain ⟨G, h⟩ := h
  exact h.bel
theorem Shx.lost {w0 w : World} {hb : Nat} {lim nx lost : Int} {its : List Itm} (h : Shx w0 w hb lim nx lost its) : hb < w.heap.size ∧ w.cell? ⟨hb, 3, none⟩ = some (.int .i64 lost) := by
  obtain ⟨G, S, ⟨gl, gf, bm, ls, free, order, cl, vf, D, hp⟩, _⟩ := h
  obtain ⟨c0, c1, c2, c3, c4, c5, c6⟩ := hp.mem.box.cells
  exact ⟨hp.mem.box.lt, c3⟩
theorem Shx.store {w0 w : World} {hb : Nat} {lim nx lost : Int} {its : List Itm} (h : Shx w0 w hb lim nx lost its) (hl : its.length ≤ 100) (w' : World) (hb' : Below w.heap.size w w') :
    Calls Tryz.prog 19 #[.pointer (some ⟨hb, 0, none⟩)] w' fun e w'' => ∃ a cap, e = .returned (.agg #[.int .i64 lim, .int .i64 nx, .slice a its.length cap]) ∧
      w''.ownsRow w'.heap.size 37 5 (.slice a its.length cap) its.length (flat its) ∧ Below w'.heap.size w' w'' := by
  obtain ⟨G, S, hs, _⟩ := h
  exact store_shelf w' hb S lim nx lost its (hs.below hb') hl

theorem Vars_below {w w' : World} (h : Count.Vars w) (hb : Below w.heap.size w w') : Count.Vars w' := h.below hb

end Shelf
end Go.Proofs.YtkdcofmpbmiloaaGreatDoor
/-
  The program's GoodStore and shelfOf over items that may be nil (written by a program of mine).
-/
namespace Go.Proofs.YtkdcofmpbmiloaaGreatDoor
namespace Store
open Go.RowKit Base GoodKey Items Keep Go.Maps
set_option linter.unusedVariables false

set_option maxRecDepth 10000 in
set_option maxHeartbeats 2000000 in
theorem impl_opt (lim nx : Int) (ia : Option Addr) (cap : Nat) (its : List Itm) (w : World) (hc : ItemsAt w ia its)
    (hl : its.length ≤ maxLen) (hcap : its.length ≤ cap) (hs : ∀ x ∈ its, Fits x) :
    Calls Tryz.prog 8 #[.agg #[.int .i64 lim, .int .i64 nx, .slice ia its.length cap]] w fun e w' => e = .returned (.bool (gsB lim nx its)) ∧ Below w.heap.size w w' := by
  unfold maxLen at hl
  have hcs := hide hc
  have hss := hide hs
  clear hc hs
  have hno : inB lim 0 10000 = true → inB nx 1 1000000000 = true → ¬ 60 < (its.length : Int) → True := fun _ _ _ => trivial
  by_cases g1 : inB lim 0 10000 = true
  case neg =>
    have H := hide (gs_1 (nx := nx) (its := its) g1)
    have g1' : lim < 0 ∨ 10000 < lim := by simp [inB] at g1; omega
    clear g1
    rcases g1' with g | g
    all_goals
      go_enter Tryz.func8, Tryz.ntmps8
      go_wp2
      go_ret
      exact ⟨ret_bool (unhide H).symm, bel1 w _⟩
  by_cases g2 : inB nx 1 1000000000 = true
  case neg =>
    have H := hide (gs_2 (lim := lim) (its := its) g2)
    have g2' : nx < 1 ∨ 1000000000 < nx := by simp [inB] at g2; omega
    have g1' : 0 ≤ lim ∧ lim ≤ 10000 := by simp [inB] at g1; omega
    clear g2 g1
    rcases g2' with g | g
    all_goals
      go_enter Tryz.func8, Tryz.ntmps8
      go_wp2
      go_ret
      exact ⟨ret_bool (unhide H).symm, bel1 w _⟩
  have g1' : 0 ≤ lim ∧ lim ≤ 10000 := by simp [inB] at g1; omega
  have g2' : 1 ≤ nx ∧ nx ≤ 1000000000 := by simp [inB] at g2; omega
  by_cases g3 : 60 < (its.length : Int)
  · have H := hide (gs_3 (lim := lim) (nx := nx) g3)
    clear g1 g2
    go_enter Tryz.func8, Tryz.ntmps8
    go_wp2
    go_ret
    exact ⟨ret_bool (unhide H).symm, bel1 w _⟩
  have HG := hide (fun h => @gs_sets lim nx its g1 g2 g3 h (.agg []))
  clear g1 g2
  have hmm := @run_makeMap Tryz.prog
  go_enter Tryz.func8, Tryz.ntmps8
  go_wp2
  go_loopw [5, 29] (fun t i wr => ∃ (k : Nat) (z : Int), k ≤ its.length ∧ 0 ≤ z ∧ z ≤ 60 * 2097162 ∧ i = .int .i64 k ∧ t = .int .i64 z ∧ Hid (z = total (its.take k)) ∧ Hid (∀ j, j < k → okB nx (its.getD j zero) = true) ∧
      Hid (wr.ownsMap Tryz.prog 9 (unitElem (H := Unit)) (w.heap.size + 1) k (Maps.setOf (.agg []) ((its.map kL).take k))) ∧ Hid (wr.ownsMap Tryz.prog 3 (unitElem (H := Unit)) (w.heap.size + 1 + 1) k (Maps.setOf (.agg []) ((its.map tL).take k))) ∧
      Hid (Below (w.heap.size + 1) (w.alloc (.cells #[.int .i64 lim, .int .i64 nx, .slice ia its.length cap] 25)) wr)) (fun _ i _ => its.length - (intOf i).toNat)
  case atStart =>
    refine ⟨0, 0, Nat.zero_le _, by omega, by omega, rfl, rfl, hide (by simp [total]), hide (fun j hj => absurd hj (Nat.not_lt_zero _)), hide ?_, hide ?_, hide ?_⟩
    · have h := World.ownsMap_made (w.alloc (.cells #[.int .i64 lim, .int .i64 nx, .slice ia its.length cap] 25)) Tryz.prog 9 (unitElem (H := Unit))
      rw [World.size_alloc] at h
      exact h.alloc _
    · have h := World.ownsMap_made ((w.alloc (.cells #[.int .i64 lim, .int .i64 nx, .slice ia its.length cap] 25)).alloc (.map #[] 0)) Tryz.prog 3 (unitElem (H := Unit))
      rw [World.size_alloc, World.size_alloc] at h
      exact h
    · exact ((Below.refl _ _).alloc (by simp) _).alloc (by simp) _
  case round =>
    obtain ⟨k, z, hk, hz0, hz1, rfl, rfl, ht, hok, hmk, hmt, hbel⟩ := hrel
    have hB : Hid (Below w.heap.size w wr) := (bel1 w _).trans ((unhide hbel).mono (by omega))
    have hbox := boxcell (unhide hbel)
    have hzw : w.heap.size + 1 + 1 < wr.heap.size := (unhide hmt).lt
    by_cases hlt : k < its.length
    · obtain ⟨b, off, hia, hb, hcq⟩ := unhide hcs (fun e => by rw [e] at hlt; exact absurd hlt (Nat.not_lt_zero _))
      subst hia
      have hcz := hide hcq
      clear hcq
      obtain ⟨c0, c1, c2, c3, c4⟩ := (unhide hcz k hlt).below (unhide hB) hb
      have hfit := hide (fits_getD (unhide hss) k hlt)
      have hbad := hide (@ok_bad lim nx its k hlt)
      have hst := hide (total_step its k hlt)
      have hkk := hide (map_step' kL its k hlt)
      have htt := hide (map_step' tL its k hlt)
      have hkx : its.getD k zero = its.getD k zero := rfl
      have hnext := hide (fun (h : okB nx (its.getD k zero) = true) j (hj : j < k + 1) => if e : j = k then (e ▸ h : okB nx (its.getD j zero) = true) else unhide hok j (by omega))
      generalize hx : its.getD k zero = x at c0 c1 c2 c3 c4 hfit hbad hst hkk htt hnext
      clear hx hkx
      cases hi : itemB x
      · have H := hide (unhide hbad (by simp [okB, hi]))
        have HI := hide hi
        clear hi hbad hnext
        go_wp2_with fail
        refine (goodItem_any x _ (unhide hfit)).mono ?_
        rintro e w1 ⟨rfl, hb1⟩
        rw [unhide HI]
        have hb1 := hide (((unhide hB).alloc (by omega) _).trans (hb1.mono (by simp; omega)))
        go_wp2
        go_ret
        exact ⟨ret_bool (unhide H).symm, unhide hb1⟩
      have HI := hide hi
      have hsm : Hid (Small x) := by
        have := (itemB_iff x).1 hi
        have e1 := this.1
        simp only [gk, inB, Bool.and_eq_true, decide_eq_true_eq] at e1
        have el : x.key.data.toList.length = x.key.size := by simp
        show x.key.size ≤ 1048576 ∧ x.data.size ≤ 1048576
        omega
      clear hi
      go_wp2_with fail
      refine (goodItem_any x _ (unhide hfit)).mono ?_
      rintro e w1 ⟨rfl, hb1⟩
      rw [unhide HI]
      simp only [World.size_alloc] at hb1
      have hB1 := hide (((unhide hbel).alloc (by omega) _).trans (hb1.mono (by omega)))
      have hx1 := boxcell hb1
      have hbx1 := boxcell (unhide hB1)
      have hz1' : wr.heap.size + 1 ≤ w1.heap.size := by have := hb1.size; simp at this; omega
      have hmk1 := hide (map_below ((unhide hmk).alloc _) hb1 (by omega))
      have hmt1 := hide (map_below ((unhide hmt).alloc _) hb1 (by omega))
      clear hb1 hbox
      by_cases g4 : nx ≤ x.token
      · have H := hide (unhide hbad (by simp [okB]; intro _; omega))
        clear hbad hnext
        go_wp2
        go_ret
        exact ⟨ret_bool (unhide H).symm, (bel1 w _).trans ((unhide hB1).mono (by omega))⟩
      have hok1 := hide (unhide hnext (by simp [okB, unhide HI]; omega))
      clear hbad hnext
      have hkey : keyOf Tryz.prog 9 (.string x.key) = some (kL x) := Go.WideMaps.keyOf_string_mk Tryz.underlying9 (unhide hfit).1
      have HKEY := hide hkey
      clear hkey
      go_wp2_with (at_mapUpdate; go_loud (refine wpList_mapUpdate_in _ rfl _ _ _ 64 rfl 9 67 keyLaw Tryz.underlying64 _ (w.heap.size + 1) k _ rfl (unhide hmk1) (by unfold maxLen; omega) _ _ _ rfl rfl (unhide HKEY) _ [] unitElem_mk ?_))
      intro w2 hown2 hturn2
      have hg2 := hturn2.grown
      have hx2 := fun o => (World.cell?_of_block (a := ⟨wr.heap.size, o, none⟩) (hg2.block wr.heap.size (by omega) (by simp; omega))).trans (hx1 o)
      have hbx2 := fun o => (World.cell?_of_block (a := ⟨w.heap.size, o, none⟩) (hg2.block w.heap.size (by omega) (by simp))).trans (hbx1 o)
      have hmk2 := hide hown2
      have hmt2 := hide ((unhide hmt1).kept hg2 (by simp))
      have hB2 := hide ((unhide hB1).grown hg2 (by omega) (fun j e => by simp at e; omega))
      have hz2' : wr.heap.size + 1 ≤ w2.heap.size := by have := hg2.size; omega
      have htok : keyOf Tryz.prog 3 (.int .i64 x.token) = some (tL x) := keyOf_int_mk Tryz.underlying3 (WalkArith.wf_i64 (by have := (itemB_iff x).1 (unhide HI); omega))
      have HTOK := hide htok
      clear hx1 hbx1 hg2 hown2 hturn2 hmk1 hmt1 hB1 hz1' htok HKEY
      go_wp2_with (at_mapUpdate; go_loud (refine wpList_mapUpdate_in _ rfl _ _ _ 65 rfl 3 67 tokLaw Tryz.underlying65 _ (w.heap.size + 1 + 1) k _ rfl (unhide hmt2) (by unfold maxLen; omega) _ _ _ rfl rfl (unhide HTOK) _ [] unitElem_mk ?_))
      intro w3 hown3 hturn3
      have hg3 := hturn3.grown
      have hx3 := fun o => (World.cell?_of_block (a := ⟨wr.heap.size, o, none⟩) (hg3.block wr.heap.size (by omega) (by simp; omega))).trans (hx2 o)
      have hbx3 := fun o => (World.cell?_of_block (a := ⟨w.heap.size, o, none⟩) (hg3.block w.heap.size (by omega) (by simp; omega))).trans (hbx2 o)
      have hmt3 := hide hown3
      have hmk3 := hide ((unhide hmk2).kept hg3 (by simp))
      have hB3 := hide ((unhide hB2).grown hg3 (by omega) (fun j e => by simp at e; omega))
      have hz3' : wr.heap.size + 1 ≤ w3.heap.size := by have := hg3.size; omega
      clear hx2 hbx2 hg3 hown3 hturn3 hmk2 hmt2 hB2 hz2' HTOK
      have hch : 0 ≤ charge x ∧ charge x ≤ 2097162 := by have := unhide hsm; unfold Small at this; unfold charge; omega
      go_wp2_with fail
      refine (chargeOf_any x _ (unhide hsm)).mono ?_
      rintro e w4 ⟨rfl, hb4⟩
      have hmk4 := hide (map_below (unhide hmk3) hb4 (by omega))
      have hmt4 := hide (map_below (unhide hmt3) hb4 (by omega))
      have hB4 := hide ((unhide hB3).trans (hb4.mono (by omega)))
      clear hb4 hx3 hbx3
      have hle := ok_total (show k + 1 ≤ its.length by omega) (by omega) (unhide hok1)
      generalize charge x = c at hst hch
      go_wp2
      go_roundw
      case rel =>
        refine ⟨k + 1, z + c, by omega, by omega, ?_, by go_num, rfl, hide ?_, hok1, ?_, ?_, hB4⟩
        · have := unhide hst; have := unhide ht; omega
        · have := unhide hst; have := unhide ht; omega
        · rw [unhide hkk, setOf_snoc]; exact hmk4
        · rw [unhide htt, setOf_snoc]; exact hmt4
      case measure => simp [intOf]; omega
    · obtain rfl : k = its.length := by omega
      have H := hide (unhide HG (unhide hok))
      have e1 : (its.map kL).take its.length = its.map kL := List.take_of_length_le (by simp)
      have e2 : (its.map tL).take its.length = its.map tL := List.take_of_length_le (by simp)
      rw [e1] at hmk
      rw [e2] at hmt
      have ht' : Hid (z = total its) := by show z = total its; rw [unhide ht, List.take_length]
      clear e1 e2 ht
      generalize Maps.setOf (.agg []) (its.map kL) = Dk at H hmk
      generalize Maps.setOf (.agg []) (its.map tL) = Dt at H hmt
      have hlk := fun ty => (unhide hmk).len Tryz.underlying64 ty
      have hlt' := fun ty => (unhide hmt).len Tryz.underlying65 ty
      generalize Maps.size Dk = nk at H hlk
      generalize Maps.size Dt = nt at H hlt'
      have hfin : Hid (gsB lim nx its = (decide ((nk : Int) = its.length) && decide ((nt : Int) = its.length) && decide (z ≤ lim))) := by
        show gsB lim nx its = _
        rw [unhide H, unhide ht']
      clear H ht'
      go_wp2
      all_goals
        go_ret
        refine ⟨ret_bool ?_, unhide hB⟩
        rw [unhide hfin]
        first
          | rfl
          | (simp [*]; done)
          | (simp_all; done)
end Store
namespace Shelf
open Go.RowKit Base Items Keep Own Chain Store
set_option linter.unusedVariables false

set_option maxRecDepth 10000 in
set_option maxHeartbeats 4000000 in
theorem shelfOf_opt (lim nx : Int) (ia : Option Addr) (cap : Nat) (its : List Itm) (w : World) (hc : ItemsAt w ia its) (hl : its.length ≤ 100) (hs : ∀ x ∈ its, Small x) (hk : (its.map Itm.key).Nodup) :
    Calls Tryz.prog 16 #[.agg #[.int .i64 lim, .int .i64 nx, .slice ia its.length cap]] w fun e w' => ∃ h S, e = .returned (.pointer (some ⟨h, 0, none⟩)) ∧ Shelf w' h S lim nx 0 its ∧ (∀ y ∈ S, w.heap.size ≤ y) ∧ Below w.heap.size w w' := by
  have HC := hide hc
  have HS := hide hs
  have HK := hide hk
  clear hc hs hk
  have hmm := @run_makeMap Tryz.prog
  go_enter Tryz.func16, Tryz.ntmps16
  go_upto_region 1 with fail
  go_cut [3] (fun s3 wx => ∃ (h : Nat), s3 = .pointer (some ⟨h, 0, none⟩) ∧ Hid (New w wx (.cells #[.int .i64 lim, .int .i64 nx, .slice ia its.length cap] 25) lim nx h))
  case first =>
    have s0 := (bx_a w 25 (.int .i64 lim) (.int .i64 nx) (.slice ia its.length cap)).1
    have s1 := (bx_a w 25 (.int .i64 lim) (.int .i64 nx) (.slice ia its.length cap)).2
    have n0 := World.new_ne (w.alloc (.cells #[.int .i64 lim, .int .i64 nx, .slice ia its.length cap] 25)) _ s0
    have n1 := World.new_ne (w.alloc (.cells #[.int .i64 lim, .int .i64 nx, .slice ia its.length cap] 25)) _ s1
    go_region_held3 (fun w' => w'.cell? ⟨w.heap.size, 0, none⟩ = some (.int .i64 lim) ∧ w'.cell? ⟨w.heap.size, 1, none⟩ = some (.int .i64 nx)) (first | go_keep | (refine ⟨?_, ?_⟩ <;> first | assumption | (simp [*]; done) | (simp; omega))) (first | (go_at_call 41; refine (newChain_any _).mono ?_; rintro e w1 ⟨g, rfl, hg, hli, hb1⟩; have q0 := (hb1.cell (p := ⟨w.heap.size, 0, none⟩) (by first | (simp [World.drew]; done) | (simp [World.drew]; omega))).trans (by first | exact (bx_a w _ _ _ _).1 | exact (bx_b w _ _ _ _ _).1); have q1 := (hb1.cell (p := ⟨w.heap.size, 1, none⟩) (by first | (simp [World.drew]; done) | (simp [World.drew]; omega))).trans (by first | exact (bx_a w _ _ _ _).2 | exact (bx_b w _ _ _ _ _).2); have hz1 : w.heap.size < w1.heap.size := (by first | exact alloc_lt hb1.size | exact alloc_lt2 hb1.size); have HB1 := hide hb1; have HLI := hide hli; clear hb1 hli))
    all_goals
      go_wp2_with fail
      go_meet
      first | exact ⟨_, rfl, hide (new_a hg (unhide HLI) (unhide HB1))⟩ | exact ⟨_, rfl, hide (new_b hg (unhide HLI) (unhide HB1))⟩
  case rest =>
  obtain ⟨h, rfl, HN⟩ := hcut
  obtain ⟨S0, hs0, hS0, hbel0⟩ := unhide HN
  have hbx := boxcell hbel0
  have HS0 := hide hs0
  have HSS := hide hS0
  have HB0 := hide hbel0
  clear HN hs0 hS0 hbel0
  go_wp2
  go_loopw [17] (fun i wr => ∃ (k : Nat) (S : List Nat), k ≤ its.length ∧ i = .int .i64 k ∧ Hid (Shelf wr h S lim nx 0 (its.take k)) ∧ Hid (∀ y ∈ S, w.heap.size < y) ∧ Hid (Below (w.heap.size + 1) (w.alloc (.cells #[.int .i64 lim, .int .i64 nx, .slice ia its.length cap] 25)) wr)) (fun i _ => its.length - (intOf i).toNat)
  case atStart => exact ⟨0, S0, Nat.zero_le _, rfl, HS0, HSS, HB0⟩
  case round =>
    obtain ⟨k, S, hk, rfl, hsh, hSS, hbel⟩ := hrel
    have hB : Hid (Below w.heap.size w wr) := (bel1 w _).trans ((unhide hbel).mono (by omega))
    have hzw : w.heap.size + 1 ≤ wr.heap.size := by have := (unhide hbel).size; simp at this; omega
    by_cases hlt : k < its.length
    · obtain ⟨b, off, hia, hb, hcq⟩ := unhide HC (fun e => by rw [e] at hlt; exact absurd hlt (Nat.not_lt_zero _))
      subst hia
      have hcz := hide hcq
      clear hcq
      obtain ⟨c0, c1, c2, c3, c4⟩ := (unhide hcz k hlt).below (unhide hB) hb
      have hsm := hide (small_getD (unhide HS) k hlt)
      have hnk : Hid (∀ y ∈ its.take k, y.key ≠ (its.getD k zero).key) := keys_take (unhide HK) hlt
      have hst : Hid (its.take (k + 1) = its.take k ++ [its.getD k zero]) := by
        show its.take (k + 1) = _
        rw [List.take_succ_eq_append_getElem hlt]
        simp [List.getD_eq_getElem?_getD, List.getElem?_eq_getElem hlt]
      generalize its.getD k zero = x at c0 c1 c2 c3 c4 hsm hnk hst
      clear hbx
      go_wp2_with fail
      refine (putLast_shelf _ h S lim nx 0 (its.take k) x ((unhide hsh).keep ((Keeps.refl [] wr).alloc _) (by simp)) (by simp; omega) (unhide hsm) (unhide hnk)).mono ?_
      rintro e w1 ⟨rfl, S1, hs1, hS1, hk1⟩
      have HS1 : Hid (Shelf w1 h S1 lim nx 0 (its.take (k + 1))) := by
        show Shelf w1 h S1 lim nx 0 (its.take (k + 1))
        rw [unhide hst]; exact hs1
      have HSS1 : Hid (∀ y ∈ S1, w.heap.size < y) := fun y hy => (hS1 y hy).elim (unhide hSS y) (fun e => by simp at e; omega)
      have HB1 := hide (((unhide hbel).alloc (by omega) _).trans (hk1.below (B := w.heap.size + 1) (fun y hy => unhide hSS y hy) (by simp; omega)))
      clear hs1 hS1 hk1
      go_wp2
      go_roundw
      case rel => exact ⟨k + 1, S1, by omega, by go_num, HS1, HSS1, HB1⟩
      case measure => simp [intOf]; omega
    · have et : its.take k = its := List.take_of_length_le (by omega)
      rw [et] at hsh
      go_wp2
      go_ret
      exact ⟨h, S, rfl, unhide hsh, fun y hy => Nat.le_of_lt (unhide hSS y hy), unhide hB⟩
end Shelf
end Go.Proofs.YtkdcofmpbmiloaaGreatDoor
/-
  The program's DoStore over items and keys that may be nil (written by a program of mine).
-/
namespace Go.Proofs.YtkdcofmpbmiloaaGreatDoor
namespace Shelf
open Go.RowKit Base Items Keep Own Chain Store GoodKey NumText
set_option linter.unusedVariables false

set_option maxRecDepth 10000 in
set_option maxHeartbeats 4000000 in
theorem doStore_items (lim nx : Int) (ia : Option Addr) (cap : Nat) (its : List Itm) (now : Int) (nm : ByteArray) (kb ko kc : Nat) (ks : List ByteArray) (f x n : Int) (dt : ByteArray) (q : Bool) (w : World)
    (hc : ItemsAt w ia its) (hl : its.length ≤ 1048576) (hcap : its.length ≤ cap) (hs : ∀ x ∈ its, Fits x)
    (hkb : kb < w.heap.size) (hkc : ∀ i, i < ks.length → w.cell? ⟨kb, ko + i, none⟩ = some (.string (ks.getD i ByteArray.empty))) (hkl : ks.length ≤ maxLen) (hks : ∀ s ∈ ks, s.size ≤ maxLen) (hd : dt.size ≤ maxLen) (hvf : VarsF w) :
    Calls Tryz.prog 5 #[.agg #[.int .i64 lim, .int .i64 nx, .slice ia its.length cap], .int .i64 now, .agg #[.string nm, .slice (some ⟨kb, ko, none⟩) ks.length kc, .int .i64 f, .int .i64 x, .int .i64 n, .string dt, .bool q]] w
      (DoRow (doR lim nx its now nm.toList ks f x n dt q) w) := by
  obtain ⟨hv, p, hF⟩ := hvf
  have HFU := hide hF
  clear hF
  have hgood := fun w' (hb' : Below w.heap.size w w') => Store.impl_opt lim nx ia cap its w' (hc.below hb' (Nat.le_refl _)) (by unfold maxLen; omega) hcap hs
  have hcm := fun w' (hb' : Below w.heap.size w w') => GoodCmdI.impl_any nm kb ko kc ks f x n dt q w' (Nat.lt_of_lt_of_le hkb hb'.size) (fun i hi => (hb'.cell (p := ⟨kb, ko + i, none⟩) hkb).trans (hkc i hi)) hkl hks hd
  have hshelf := fun w' (hb' : Below w.heap.size w w') hl' hs' hk' => shelfOf_opt lim nx ia cap its w' (hc.below hb' (Nat.le_refl _)) hl' hs' hk'
  have HSH := hide hshelf
  have HKC := hide hkc
  have HV := hide hv
  clear hc hs hshelf hkc hks hd hv
  have hno : ∀ (w1 : World), Below w.heap.size w w1 → doR lim nx its now nm.toList ks f x n dt q = noDone → DoRow (doR lim nx its now nm.toList ks f x n dt q) w (.returned (.tuple #[.agg #[.int .i64 0, .int .i64 0, .slice none 0 0], .string ⟨#[]⟩, .int .i64 0, .bool false])) w1 := by
    intro w1 hb1 e
    rw [e]
    exact ⟨none, 0, rfl, World.ownsRow_nil _ _ _ _, hb1⟩
  have HNO := hide hno
  clear hno
  cases g1 : gsB lim nx its
  · have H : Hid (doR lim nx its now nm.toList ks f x n dt q = noDone) := by show doR lim nx its now nm.toList ks f x n dt q = _; simp [doR, g1]
    rw [g1] at hgood
    have HG := hide hgood
    clear hgood g1 hcm
    generalize doR lim nx its now nm.toList ks f x n dt q = T at H HNO ⊢
    go_enter Tryz.func5, Tryz.ntmps5
    go_wp2_with fail
    refine (unhide HG _ (bel3 w _ _ _)).mono ?_
    rintro e w1 ⟨rfl, hb1⟩
    simp only [World.size_alloc] at hb1
    have hB1 := hide ((bel3 w _ _ _).trans (hb1.mono (by omega)))
    have hr := fun o => hb1.cell (p := ⟨w.heap.size + 1 + 1, o, none⟩) (by simp)
    have hrf := fun o => hb1.frozen (p := ⟨w.heap.size + 1 + 1, o, none⟩) (by simp)
    clear hb1
    go_wp2
    refine bodyPost_ret (v := .tuple #[.agg #[.int .i64 0, .int .i64 0, .slice none 0 0], .string ⟨#[]⟩, .int .i64 0, .bool false]) (by simp [results, Tryz.results5, go_sem, hr]; done) rfl (unhide HNO _ ?_ (unhide H))
    repeat (refine Below.setCell ?_ (by first | (simp; done) | (simp; omega)) _)
    exact unhide hB1
  have HK := hide (good_keys g1)
  have HOK := hide (store_ok g1)
  rw [g1] at hgood
  have HG := hide hgood
  clear hgood
  cases g2 : inB now 0 1000000000
  · have H : Hid (doR lim nx its now nm.toList ks f x n dt q = noDone) := by show doR lim nx its now nm.toList ks f x n dt q = _; simp [doR, g1, g2]
    clear g1 hcm
    generalize doR lim nx its now nm.toList ks f x n dt q = T at H HNO ⊢
    go_enter Tryz.func5, Tryz.ntmps5
    go_wp2_with fail
    refine (unhide HG _ (bel3 w _ _ _)).mono ?_
    rintro e w1 ⟨rfl, hb1⟩
    simp only [World.size_alloc] at hb1
    have hB1 := hide ((bel3 w _ _ _).trans (hb1.mono (by omega)))
    have hr := fun o => hb1.cell (p := ⟨w.heap.size + 1 + 1, o, none⟩) (by simp)
    have hrf := fun o => hb1.frozen (p := ⟨w.heap.size + 1 + 1, o, none⟩) (by simp)
    clear hb1
    go_wp2_with (go_at_call 14; refine (goodNow_any _ _).mono ?_; rintro e w2 ⟨rfl, rfl⟩)
    refine bodyPost_ret (v := .tuple #[.agg #[.int .i64 0, .int .i64 0, .slice none 0 0], .string ⟨#[]⟩, .int .i64 0, .bool false]) (by simp [results, Tryz.results5, go_sem, hr]; done) rfl (unhide HNO _ ?_ (unhide H))
    repeat (refine Below.setCell ?_ (by first | (simp; done) | (simp; omega)) _)
    exact unhide hB1
  cases g3 : GoodCmd.gcB (Kind.kindN nm.toList) ks f x n dt q
  · have H : Hid (doR lim nx its now nm.toList ks f x n dt q = noDone) := by show doR lim nx its now nm.toList ks f x n dt q = _; simp [doR, g1, g2, g3]
    rw [g3] at hcm
    have HCM := hide hcm
    clear g1 hcm g3
    generalize doR lim nx its now nm.toList ks f x n dt q = T at H HNO ⊢
    go_enter Tryz.func5, Tryz.ntmps5
    go_wp2_with fail
    refine (unhide HG _ (bel3 w _ _ _)).mono ?_
    rintro e w1 ⟨rfl, hb1⟩
    simp only [World.size_alloc] at hb1
    have hB1 := hide ((bel3 w _ _ _).trans (hb1.mono (by omega)))
    have hr := fun o => hb1.cell (p := ⟨w.heap.size + 1 + 1, o, none⟩) (by simp)
    have hrf := fun o => hb1.frozen (p := ⟨w.heap.size + 1 + 1, o, none⟩) (by simp)
    have hs1 := fun o => hb1.cell (p := ⟨w.heap.size + 1, o, none⟩) (by first | (simp; done) | (simp; omega))
    have hz1 : w.heap.size + 1 + 1 + 1 ≤ w1.heap.size := by have := hb1.size; simp at this; omega
    clear hb1
    go_wp2_with (go_at_call 14; refine (goodNow_any _ _).mono ?_; rintro e w2 ⟨rfl, rfl⟩)
    refine (unhide HCM _ (unhide hB1)).mono ?_
    rintro e w2 ⟨rfl, hb2⟩
    have hB2 := hide ((unhide hB1).trans (hb2.mono (unhide hB1).size))
    have hr2 := fun o => (hb2.cell (p := ⟨w.heap.size + 1 + 1, o, none⟩) (by simp; omega)).trans (hr o)
    have hrf2 := fun o => (hb2.frozen (p := ⟨w.heap.size + 1 + 1, o, none⟩) (by simp; omega)).trans (hrf o)
    clear hr hrf hs1 hb2
    go_wp2
    refine bodyPost_ret (v := .tuple #[.agg #[.int .i64 0, .int .i64 0, .slice none 0 0], .string ⟨#[]⟩, .int .i64 0, .bool false]) (by simp [results, Tryz.results5, go_sem, hr2]; done) rfl (unhide HNO _ ?_ (unhide H))
    repeat (refine Below.setCell ?_ (by first | (simp; done) | (simp; omega)) _)
    exact unhide hB2
  have H : Hid (doR lim nx its now nm.toList ks f x n dt q = yesDone lim q (ansO lim nx (keepB its now) now nm.toList ks f x n dt)) := by show doR lim nx its now nm.toList ks f x n dt q = _; simp only [doR, g1, g2, g3, if_true]
  have hnow := inB_iff g2
  have HC := hide (cmd_ok g3)
  have htl := keep_ok now (unhide HOK).2.2
  have hal := @ans_len lim nx (keepB its now) now nm.toList ks f x n dt htl
  have HDO := hide (fun G w0 w1 hb1 (h : Sh G w0 w1 hb1 lim nx 0 (keepB its now)) (h0 : FullIs w0 p) h1 h2 h3 => do_shelf G w0 w1 hb1 lim nx 0 (keepB its now) now nm kb ko kc ks f x n dt q p h h0 htl h1 h2 h3 (unhide HC) htl.1 (unhide HOK).1 (unhide HOK).2.1 (by omega) hnow)
  have hkl60 : its.length ≤ 60 := (unhide HK).1
  generalize ansO lim nx (keepB its now) now nm.toList ks f x n dt = O at H HDO hal
  generalize doR lim nx its now nm.toList ks f x n dt q = T at H HNO ⊢
  generalize hkp : keepB its now = kp at HDO htl
  rw [g3] at hcm
  have HCM := hide hcm
  have HKP := hide hkp
  clear g1 hcm g3 htl hkp HNO HC
  obtain rfl : T = yesDone lim q O := unhide H
  obtain ⟨Oi, On, Ol, Oa⟩ := O
  unfold yesDone
  dsimp only at hal HDO ⊢
  clear H
  generalize (if q = true then (⟨#[]⟩ : ByteArray) else Oa) = A at HDO ⊢
  go_enter Tryz.func5, Tryz.ntmps5
  go_wp2_with fail
  refine (unhide HG _ (bel3 w _ _ _)).mono ?_
  rintro e w1 ⟨rfl, hb1⟩
  simp only [World.size_alloc] at hb1
  have hB1 := hide ((bel3 w _ _ _).trans (hb1.mono (by omega)))
  have hr := fun o => hb1.cell (p := ⟨w.heap.size + 1 + 1, o, none⟩) (by simp)
  have hrf := fun o => hb1.frozen (p := ⟨w.heap.size + 1 + 1, o, none⟩) (by simp)
  have hs1 := fun o => hb1.cell (p := ⟨w.heap.size + 1, o, none⟩) (by first | (simp; done) | (simp; omega))
  have hs0 := fun o => hb1.cell (p := ⟨w.heap.size, o, none⟩) (by simp; omega)
  have hz1 : w.heap.size + 1 + 1 + 1 ≤ w1.heap.size := by have := hb1.size; simp at this; omega
  clear hb1
  go_wp2_with (go_at_call 14; refine (goodNow_any _ _).mono ?_; rintro e w2 ⟨rfl, rfl⟩)
  refine (unhide HCM _ (unhide hB1)).mono ?_
  rintro e w2 ⟨rfl, hb2⟩
  have hB2 := hide ((unhide hB1).trans (hb2.mono (unhide hB1).size))
  have hr2 := fun o => (hb2.cell (p := ⟨w.heap.size + 1 + 1, o, none⟩) (by simp; omega)).trans (hr o)
  have hrf2 := fun o => (hb2.frozen (p := ⟨w.heap.size + 1 + 1, o, none⟩) (by simp; omega)).trans (hrf o)
  have hs12 := fun o => (hb2.cell (p := ⟨w.heap.size + 1, o, none⟩) (by simp; omega)).trans (hs1 o)
  have hs02 := fun o => (hb2.cell (p := ⟨w.heap.size, o, none⟩) (by simp; omega)).trans (hs0 o)
  have hz2 : w.heap.size + 1 + 1 + 1 ≤ w2.heap.size := by have := hb2.size; omega
  clear hr hrf hs1 hs0 hb2
  go_wp2_with fail
  refine (unhide HSH _ (unhide hB2) (by omega) (unhide HK).2.1 (unhide HK).2.2).mono ?_
  rintro e w3 ⟨h, S, rfl, hsh, hS, hb3⟩
  have HSS := hide hS
  have HS3 := hide hsh
  have HB3 := hide hb3
  have hz3 : w2.heap.size ≤ w3.heap.size := hb3.size
  clear hsh hS hb3 hs02
  go_wp2_with fail
  refine (dropOld_shelf _ h S lim nx 0 its now (unhide HS3) (by omega)).mono ?_
  rintro e w4 ⟨rfl, hst4⟩
  rw [unhide HKP] at hst4
  have HX4 := hide (Shx.step (unhide HSS) (unhide HB3) (by omega) hst4)
  have hc14 := fun o => ((unhide HX4).bel.cell (p := ⟨w.heap.size + 1, o, none⟩) (by simp; omega)).trans (hs12 o)
  clear hst4 hs12 HS3 HSS HB3
  go_wp2_with fail
  obtain ⟨G4, hsh4⟩ := unhide HX4
  refine (unhide HDO G4 w2 _ h hsh4 ((unhide HFU).below (unhide hB2)) (Vars_below (unhide HV) (unhide hB2)) (Nat.lt_of_lt_of_le hkb (unhide hB2).size) (fun i hi => ((unhide hB2).cell (p := ⟨kb, ko + i, none⟩) hkb).trans (unhide HKC i hi))).mono ?_
  rintro e w5 ⟨rfl, hsh5⟩
  rw [Int.zero_add] at hsh5
  have hl5 := hsh5.lost
  have HST := hide (fun w' hb' => hsh5.store (by omega) w' hb')
  have hr5 := fun o => (hsh5.bel.cell (p := ⟨w.heap.size + 1 + 1, o, none⟩) (by simp; omega)).trans (hr2 o)
  have hrf5 := fun o => (hsh5.bel.frozen (p := ⟨w.heap.size + 1 + 1, o, none⟩) (by simp; omega)).trans (hrf2 o)
  have hB5 := hide ((unhide hB2).trans (hsh5.bel.mono (unhide hB2).size))
  have hz5 : w.heap.size + 1 + 1 + 1 ≤ w5.heap.size := by have := hsh5.bel.size; omega
  obtain ⟨hlh, hl5⟩ := hl5
  have hz50 : w.heap.size ≤ w5.heap.size := by omega
  have hz51 : w.heap.size + 1 + 1 < w5.heap.size := by omega
  clear hsh4 hsh5 hc14 hr2 hrf2 HX4
  go_wp2_with fail
  go_region_with (first | (go_at_call 19; (refine (unhide HST _ (Below.refl _ _).drew).mono ?_; rintro e w6 ⟨a, cap6, rfl, hown, hb6⟩; have hl6 := (hb6.cell (p := ⟨h, 3, none⟩) hlh).trans hl5; have hr6 := fun o => (hb6.cell (p := ⟨w.heap.size + 1 + 1, o, none⟩) (show w.heap.size + 1 + 1 < w5.heap.size by omega)).trans (hr5 o); have hrf6 := fun o => (hb6.frozen (p := ⟨w.heap.size + 1 + 1, o, none⟩) (show w.heap.size + 1 + 1 < w5.heap.size by omega)).trans (hrf5 o); have hB6 := hide ((unhide hB5).drew.trans (hb6.mono hz50)); have HO := hide (own_le hown hz5); have hz6 : w.heap.size + 1 + 1 < w6.heap.size := Nat.lt_of_lt_of_le hz51 hb6.size; clear hb6 hown)))
  all_goals
    go_wp2
    refine bodyPost_ret (v := .tuple #[.agg #[.int .i64 lim, .int .i64 On, .slice a Oi.length cap6], .string A, .int .i64 Ol, .bool true]) (by simp [results, Tryz.results5, go_sem, hr6]; done) rfl ?_
    have own2 := ownsRow_setCell_below (ownsRow_setCell_below (ownsRow_setCell_below (unhide HO) (a := ⟨w.heap.size + 1 + 1, 0, none⟩) (show w.heap.size + 1 + 1 < w.heap.size + 1 + 1 + 1 by omega) (.int .i64 lim)) (a := ⟨w.heap.size + 1 + 1, 1, none⟩) (show w.heap.size + 1 + 1 < w.heap.size + 1 + 1 + 1 by omega) (.int .i64 On)) (a := ⟨w.heap.size + 1 + 1, 2, none⟩) (show w.heap.size + 1 + 1 < w.heap.size + 1 + 1 + 1 by omega) (.slice a Oi.length cap6)
    refine ⟨a, cap6, rfl, own_le own2 (by omega), ?_⟩
    repeat (refine Below.setCell ?_ (by first | (simp; done) | (simp; omega)) _)
    exact unhide hB6

set_option maxRecDepth 10000 in
set_option maxHeartbeats 4000000 in
theorem doStore_nokeys (lim nx : Int) (ia : Option Addr) (cap : Nat) (its : List Itm) (now : Int) (nm : ByteArray) (ka : Option Addr) (kc : Nat) (f x n : Int) (dt : ByteArray) (q : Bool) (w : World)
    (hc : ItemsAt w ia its) (hl : its.length ≤ 1048576) (hcap : its.length ≤ cap) (hs : ∀ x ∈ its, Fits x)
    (hK : Kind.kindN nm.toList = 7) (hd : dt.size ≤ maxLen) (hvf : VarsF w) :
    Calls Tryz.prog 5 #[.agg #[.int .i64 lim, .int .i64 nx, .slice ia its.length cap], .int .i64 now, .agg #[.string nm, .slice ka 0 kc, .int .i64 f, .int .i64 x, .int .i64 n, .string dt, .bool q]] w
      (DoRow (doR lim nx its now nm.toList [] f x n dt q) w) := by
  obtain ⟨hv, p, hF⟩ := hvf
  have HFU := hide hF
  clear hF
  have hgood := fun w' (hb' : Below w.heap.size w w') => Store.impl_opt lim nx ia cap its w' (hc.below hb' (Nat.le_refl _)) (by unfold maxLen; omega) hcap hs
  have hcm := fun w' (hb' : Below w.heap.size w w') => GoodCmdI.impl_opt nm ka kc [] f x n dt q w' (fun h => absurd rfl h) (by simp) (by simp) hd
  have hshelf := fun w' (hb' : Below w.heap.size w w') hl' hs' hk' => shelfOf_opt lim nx ia cap its w' (hc.below hb' (Nat.le_refl _)) hl' hs' hk'
  have HSH := hide hshelf
  have HV := hide hv
  clear hc hs hshelf hd hv
  have hno : ∀ (w1 : World), Below w.heap.size w w1 → doR lim nx its now nm.toList [] f x n dt q = noDone → DoRow (doR lim nx its now nm.toList [] f x n dt q) w (.returned (.tuple #[.agg #[.int .i64 0, .int .i64 0, .slice none 0 0], .string ⟨#[]⟩, .int .i64 0, .bool false])) w1 := by
    intro w1 hb1 e
    rw [e]
    exact ⟨none, 0, rfl, World.ownsRow_nil _ _ _ _, hb1⟩
  have HNO := hide hno
  clear hno
  cases g1 : gsB lim nx its
  · have H : Hid (doR lim nx its now nm.toList [] f x n dt q = noDone) := by show doR lim nx its now nm.toList [] f x n dt q = _; simp [doR, g1]
    rw [g1] at hgood
    have HG := hide hgood
    clear hgood g1 hcm
    generalize doR lim nx its now nm.toList [] f x n dt q = T at H HNO ⊢
    go_enter Tryz.func5, Tryz.ntmps5
    go_wp2_with fail
    refine (unhide HG _ (bel3 w _ _ _)).mono ?_
    rintro e w1 ⟨rfl, hb1⟩
    simp only [World.size_alloc] at hb1
    have hB1 := hide ((bel3 w _ _ _).trans (hb1.mono (by omega)))
    have hr := fun o => hb1.cell (p := ⟨w.heap.size + 1 + 1, o, none⟩) (by simp)
    have hrf := fun o => hb1.frozen (p := ⟨w.heap.size + 1 + 1, o, none⟩) (by simp)
    clear hb1
    go_wp2
    refine bodyPost_ret (v := .tuple #[.agg #[.int .i64 0, .int .i64 0, .slice none 0 0], .string ⟨#[]⟩, .int .i64 0, .bool false]) (by simp [results, Tryz.results5, go_sem, hr]; done) rfl (unhide HNO _ ?_ (unhide H))
    repeat (refine Below.setCell ?_ (by first | (simp; done) | (simp; omega)) _)
    exact unhide hB1
  have HK := hide (good_keys g1)
  have HOK := hide (store_ok g1)
  rw [g1] at hgood
  have HG := hide hgood
  clear hgood
  cases g2 : inB now 0 1000000000
  · have H : Hid (doR lim nx its now nm.toList [] f x n dt q = noDone) := by show doR lim nx its now nm.toList [] f x n dt q = _; simp [doR, g1, g2]
    clear g1 hcm
    generalize doR lim nx its now nm.toList [] f x n dt q = T at H HNO ⊢
    go_enter Tryz.func5, Tryz.ntmps5
    go_wp2_with fail
    refine (unhide HG _ (bel3 w _ _ _)).mono ?_
    rintro e w1 ⟨rfl, hb1⟩
    simp only [World.size_alloc] at hb1
    have hB1 := hide ((bel3 w _ _ _).trans (hb1.mono (by omega)))
    have hr := fun o => hb1.cell (p := ⟨w.heap.size + 1 + 1, o, none⟩) (by simp)
    have hrf := fun o => hb1.frozen (p := ⟨w.heap.size + 1 + 1, o, none⟩) (by simp)
    clear hb1
    go_wp2_with (go_at_call 14; refine (goodNow_any _ _).mono ?_; rintro e w2 ⟨rfl, rfl⟩)
    refine bodyPost_ret (v := .tuple #[.agg #[.int .i64 0, .int .i64 0, .slice none 0 0], .string ⟨#[]⟩, .int .i64 0, .bool false]) (by simp [results, Tryz.results5, go_sem, hr]; done) rfl (unhide HNO _ ?_ (unhide H))
    repeat (refine Below.setCell ?_ (by first | (simp; done) | (simp; omega)) _)
    exact unhide hB1
  cases g3 : GoodCmd.gcB (Kind.kindN nm.toList) [] f x n dt q
  · have H : Hid (doR lim nx its now nm.toList [] f x n dt q = noDone) := by show doR lim nx its now nm.toList [] f x n dt q = _; simp [doR, g1, g2, g3]
    rw [g3] at hcm
    have HCM := hide hcm
    clear g1 hcm g3
    generalize doR lim nx its now nm.toList [] f x n dt q = T at H HNO ⊢
    go_enter Tryz.func5, Tryz.ntmps5
    go_wp2_with fail
    refine (unhide HG _ (bel3 w _ _ _)).mono ?_
    rintro e w1 ⟨rfl, hb1⟩
    simp only [World.size_alloc] at hb1
    have hB1 := hide ((bel3 w _ _ _).trans (hb1.mono (by omega)))
    have hr := fun o => hb1.cell (p := ⟨w.heap.size + 1 + 1, o, none⟩) (by simp)
    have hrf := fun o => hb1.frozen (p := ⟨w.heap.size + 1 + 1, o, none⟩) (by simp)
    have hs1 := fun o => hb1.cell (p := ⟨w.heap.size + 1, o, none⟩) (by first | (simp; done) | (simp; omega))
    have hz1 : w.heap.size + 1 + 1 + 1 ≤ w1.heap.size := by have := hb1.size; simp at this; omega
    clear hb1
    go_wp2_with (go_at_call 14; refine (goodNow_any _ _).mono ?_; rintro e w2 ⟨rfl, rfl⟩)
    refine (unhide HCM _ (unhide hB1)).mono ?_
    rintro e w2 ⟨rfl, hb2⟩
    have hB2 := hide ((unhide hB1).trans (hb2.mono (unhide hB1).size))
    have hr2 := fun o => (hb2.cell (p := ⟨w.heap.size + 1 + 1, o, none⟩) (by simp; omega)).trans (hr o)
    have hrf2 := fun o => (hb2.frozen (p := ⟨w.heap.size + 1 + 1, o, none⟩) (by simp; omega)).trans (hrf o)
    clear hr hrf hs1 hb2
    go_wp2
    refine bodyPost_ret (v := .tuple #[.agg #[.int .i64 0, .int .i64 0, .slice none 0 0], .string ⟨#[]⟩, .int .i64 0, .bool false]) (by simp [results, Tryz.results5, go_sem, hr2]; done) rfl (unhide HNO _ ?_ (unhide H))
    repeat (refine Below.setCell ?_ (by first | (simp; done) | (simp; omega)) _)
    exact unhide hB2
  have H : Hid (doR lim nx its now nm.toList [] f x n dt q = yesDone lim q (ansO lim nx (keepB its now) now nm.toList [] f x n dt)) := by show doR lim nx its now nm.toList [] f x n dt q = _; simp only [doR, g1, g2, g3, if_true]
  have hnow := inB_iff g2
  have HC := hide (cmd_ok g3)
  have htl := keep_ok now (unhide HOK).2.2
  have hal := @ans_len lim nx (keepB its now) now nm.toList [] f x n dt htl
  have HDO := hide (fun G w0 w1 hb1 (h : Sh G w0 w1 hb1 lim nx 0 (keepB its now)) (h0 : FullIs w0 p) h1 => do_nil G w0 w1 hb1 lim nx 0 (keepB its now) now nm ka kc f x n dt q p h h0 htl h1 hK htl.1 (unhide HOK).1 (unhide HOK).2.1 (by omega) hnow)
  have hkl60 : its.length ≤ 60 := (unhide HK).1
  generalize ansO lim nx (keepB its now) now nm.toList [] f x n dt = O at H HDO hal
  generalize doR lim nx its now nm.toList [] f x n dt q = T at H HNO ⊢
  generalize hkp : keepB its now = kp at HDO htl
  rw [g3] at hcm
  have HCM := hide hcm
  have HKP := hide hkp
  clear g1 hcm g3 htl hkp HNO HC
  obtain rfl : T = yesDone lim q O := unhide H
  obtain ⟨Oi, On, Ol, Oa⟩ := O
  unfold yesDone
  dsimp only at hal HDO ⊢
  clear H
  generalize (if q = true then (⟨#[]⟩ : ByteArray) else Oa) = A at HDO ⊢
  go_enter Tryz.func5, Tryz.ntmps5
  go_wp2_with fail
  refine (unhide HG _ (bel3 w _ _ _)).mono ?_
  rintro e w1 ⟨rfl, hb1⟩
  simp only [World.size_alloc] at hb1
  have hB1 := hide ((bel3 w _ _ _).trans (hb1.mono (by omega)))
  have hr := fun o => hb1.cell (p := ⟨w.heap.size + 1 + 1, o, none⟩) (by simp)
  have hrf := fun o => hb1.frozen (p := ⟨w.heap.size + 1 + 1, o, none⟩) (by simp)
  have hs1 := fun o => hb1.cell (p := ⟨w.heap.size + 1, o, none⟩) (by first | (simp; done) | (simp; omega))
  have hs0 := fun o => hb1.cell (p := ⟨w.heap.size, o, none⟩) (by simp; omega)
  have hz1 : w.heap.size + 1 + 1 + 1 ≤ w1.heap.size := by have := hb1.size; simp at this; omega
  clear hb1
  go_wp2_with (go_at_call 14; refine (goodNow_any _ _).mono ?_; rintro e w2 ⟨rfl, rfl⟩)
  refine (unhide HCM _ (unhide hB1)).mono ?_
  rintro e w2 ⟨rfl, hb2⟩
  have hB2 := hide ((unhide hB1).trans (hb2.mono (unhide hB1).size))
  have hr2 := fun o => (hb2.cell (p := ⟨w.heap.size + 1 + 1, o, none⟩) (by simp; omega)).trans (hr o)
  have hrf2 := fun o => (hb2.frozen (p := ⟨w.heap.size + 1 + 1, o, none⟩) (by simp; omega)).trans (hrf o)
  have hs12 := fun o => (hb2.cell (p := ⟨w.heap.size + 1, o, none⟩) (by simp; omega)).trans (hs1 o)
  have hs02 := fun o => (hb2.cell (p := ⟨w.heap.size, o, none⟩) (by simp; omega)).trans (hs0 o)
  have hz2 : w.heap.size + 1 + 1 + 1 ≤ w2.heap.size := by have := hb2.size; omega
  clear hr hrf hs1 hs0 hb2
  go_wp2_with fail
  refine (unhide HSH _ (unhide hB2) (by omega) (unhide HK).2.1 (unhide HK).2.2).mono ?_
  rintro e w3 ⟨h, S, rfl, hsh, hS, hb3⟩
  have HSS := hide hS
  have HS3 := hide hsh
  have HB3 := hide hb3
  have hz3 : w2.heap.size ≤ w3.heap.size := hb3.size
  clear hsh hS hb3 hs02
  go_wp2_with fail
  refine (dropOld_shelf _ h S lim nx 0 its now (unhide HS3) (by omega)).mono ?_
  rintro e w4 ⟨rfl, hst4⟩
  rw [unhide HKP] at hst4
  have HX4 := hide (Shx.step (unhide HSS) (unhide HB3) (by omega) hst4)
  have hc14 := fun o => ((unhide HX4).bel.cell (p := ⟨w.heap.size + 1, o, none⟩) (by simp; omega)).trans (hs12 o)
  clear hst4 hs12 HS3 HSS HB3
  go_wp2_with fail
  obtain ⟨G4, hsh4⟩ := unhide HX4
  refine (unhide HDO G4 w2 _ h hsh4 ((unhide HFU).below (unhide hB2)) (Vars_below (unhide HV) (unhide hB2))).mono ?_
  rintro e w5 ⟨rfl, hsh5⟩
  rw [Int.zero_add] at hsh5
  have hl5 := hsh5.lost
  have HST := hide (fun w' hb' => hsh5.store (by omega) w' hb')
  have hr5 := fun o => (hsh5.bel.cell (p := ⟨w.heap.size + 1 + 1, o, none⟩) (by simp; omega)).trans (hr2 o)
  have hrf5 := fun o => (hsh5.bel.frozen (p := ⟨w.heap.size + 1 + 1, o, none⟩) (by simp; omega)).trans (hrf2 o)
  have hB5 := hide ((unhide hB2).trans (hsh5.bel.mono (unhide hB2).size))
  have hz5 : w.heap.size + 1 + 1 + 1 ≤ w5.heap.size := by have := hsh5.bel.size; omega
  obtain ⟨hlh, hl5⟩ := hl5
  have hz50 : w.heap.size ≤ w5.heap.size := by omega
  have hz51 : w.heap.size + 1 + 1 < w5.heap.size := by omega
  clear hsh4 hsh5 hc14 hr2 hrf2 HX4
  go_wp2_with fail
  go_region_with (first | (go_at_call 19; (refine (unhide HST _ (Below.refl _ _).drew).mono ?_; rintro e w6 ⟨a, cap6, rfl, hown, hb6⟩; have hl6 := (hb6.cell (p := ⟨h, 3, none⟩) hlh).trans hl5; have hr6 := fun o => (hb6.cell (p := ⟨w.heap.size + 1 + 1, o, none⟩) (show w.heap.size + 1 + 1 < w5.heap.size by omega)).trans (hr5 o); have hrf6 := fun o => (hb6.frozen (p := ⟨w.heap.size + 1 + 1, o, none⟩) (show w.heap.size + 1 + 1 < w5.heap.size by omega)).trans (hrf5 o); have hB6 := hide ((unhide hB5).drew.trans (hb6.mono hz50)); have HO := hide (own_le hown hz5); have hz6 : w.heap.size + 1 + 1 < w6.heap.size := Nat.lt_of_lt_of_le hz51 hb6.size; clear hb6 hown)))
  all_goals
    go_wp2
    refine bodyPost_ret (v := .tuple #[.agg #[.int .i64 lim, .int .i64 On, .slice a Oi.length cap6], .string A, .int .i64 Ol, .bool true]) (by simp [results, Tryz.results5, go_sem, hr6]; done) rfl ?_
    have own2 := ownsRow_setCell_below (ownsRow_setCell_below (ownsRow_setCell_below (unhide HO) (a := ⟨w.heap.size + 1 + 1, 0, none⟩) (show w.heap.size + 1 + 1 < w.heap.size + 1 + 1 + 1 by omega) (.int .i64 lim)) (a := ⟨w.heap.size + 1 + 1, 1, none⟩) (show w.heap.size + 1 + 1 < w.heap.size + 1 + 1 + 1 by omega) (.int .i64 On)) (a := ⟨w.heap.size + 1 + 1, 2, none⟩) (show w.heap.size + 1 + 1 < w.heap.size + 1 + 1 + 1 by omega) (.slice a Oi.length cap6)
    refine ⟨a, cap6, rfl, own_le own2 (by omega), ?_⟩
    repeat (refine Below.setCell ?_ (by first | (simp; done) | (simp; omega)) _)
    exact unhide hB6

/-- DoStore, over items and keys that may be nil; no keys only where the command wants none. -/
theorem doStore_any (lim nx : Int) (ia : Option Addr) (cap : Nat) (its : List Itm) (now : Int) (nm : ByteArray) (ka : Option Addr) (kc : Nat) (ks : List ByteArray) (f x n : Int) (dt : ByteArray) (q : Bool) (w : World)
    (hc : ItemsAt w ia its) (hl : its.length ≤ 1048576) (hcap : its.length ≤ cap) (hs : ∀ x ∈ its, Fits x) (hkc : StrsAt w ka ks) (hkl : ks.length ≤ maxLen) (hks : ∀ s ∈ ks, s.size ≤ maxLen) (hK : ks = [] → Kind.kindN nm.toList = 7) (hd : dt.size ≤ maxLen) (hvf : VarsF w) :
    Calls Tryz.prog 5 #[.agg #[.int .i64 lim, .int .i64 nx, .slice ia its.length cap], .int .i64 now, .agg #[.string nm, .slice ka ks.length kc, .int .i64 f, .int .i64 x, .int .i64 n, .string dt, .bool q]] w
      (DoRow (doR lim nx its now nm.toList ks f x n dt q) w) := by
  by_cases hne : ks = []
  · subst hne
    exact doStore_nokeys lim nx ia cap its now nm ka kc f x n dt q w hc hl hcap hs (hK rfl) hd hvf
  · obtain ⟨kb, ko, rfl, hkb, hkc'⟩ := hkc hne
    exact doStore_items lim nx ia cap its now nm kb ko kc ks f x n dt q w hc hl hcap hs hkb hkc' hkl hks hd hvf
end Shelf
end Go.Proofs.YtkdcofmpbmiloaaGreatDoor
/-
  FnExactChargeOf returns true for every store: the program's ChargeOf answers as the model's, and leaves its argument alone. No condition.
-/
namespace Go.Proofs.YtkdcofmpbmiloaaGreatDoor
namespace Shelf
open Go.RowKit Base Items Keep Own Chain Store
set_option linter.unusedVariables false

end Shelf
end Go.Proofs.YtkdcofmpbmiloaaGreatDoor
/-
  FnExactFindItem returns true for every store, time and key: the program's FindItem answers as the model's, and leaves its arguments alone. No condition.
-/
namespace Go.Proofs.YtkdcofmpbmiloaaGreatDoor
namespace Shelf
open Go.RowKit Base Items Keep Own Chain Store GoodKey
set_option linter.unusedVariables false

theorem small_zero : Small zero := ⟨by decide, by decide⟩

end Shelf
end Go.Proofs.YtkdcofmpbmiloaaGreatDoor
/-
  The program's ChargeOf and FindItem over items that may be nil (written by a program of mine).
-/
namespace Go.Proofs.YtkdcofmpbmiloaaGreatDoor
namespace Shelf
open Go.RowKit Base Items Keep Own Chain Store
set_option linter.unusedVariables false

set_option maxRecDepth 10000 in
set_option maxHeartbeats 1000000 in
theorem chargeOf_opt (lim nx : Int) (ia : Option Addr) (cap : Nat) (its : List Itm) (w : World) (hc : ItemsAt w ia its)
    (hl : its.length ≤ 1048576) (hcap : its.length ≤ cap) (hs : ∀ x ∈ its, Fits x) :
    Calls Tryz.prog 7 #[.agg #[.int .i64 lim, .int .i64 nx, .slice ia its.length cap]] w fun e w' =>
      e = .returned (.tuple #[.int .i64 (ChargeOfL.chB lim nx its), .bool (gsB lim nx its)]) ∧ Below w.heap.size w w' := by
  have hgood := fun w' (hb' : Below w.heap.size w w') => Store.impl_opt lim nx ia cap its w' (hc.below hb' (Nat.le_refl _)) (by unfold maxLen; omega) hcap hs
  have hshelf := fun w' (hb' : Below w.heap.size w w') hl' hs' hk' => shelfOf_opt lim nx ia cap its w' (hc.below hb' (Nat.le_refl _)) hl' hs' hk'
  have HSH := hide hshelf
  clear hc hs hshelf
  cases g1 : gsB lim nx its
  · have H : Hid (ChargeOfL.chB lim nx its = 0) := by show ChargeOfL.chB lim nx its = 0; rw [ChargeOfL.chB, g1]; rfl
    rw [g1] at hgood
    have HG := hide hgood
    clear hgood g1
    go_enter Tryz.func7, Tryz.ntmps7
    go_wp2_with fail
    refine (unhide HG _ (bel1 w _)).mono ?_
    rintro e w1 ⟨rfl, hb1⟩
    have hb1 := hide ((bel1 w _).trans (hb1.mono (by simp)))
    go_wp2
    go_ret2
    exact ⟨ChargeOfL.ret_ib (unhide H).symm, unhide hb1⟩
  · have H : Hid (ChargeOfL.chB lim nx its = total its) := by show ChargeOfL.chB lim nx its = _; rw [ChargeOfL.chB, g1]; rfl
    have HK := hide (good_keys g1)
    rw [g1] at hgood
    have HG := hide hgood
    clear hgood g1
    go_enter Tryz.func7, Tryz.ntmps7
    go_wp2_with fail
    refine (unhide HG _ (bel1 w _)).mono ?_
    rintro e w1 ⟨rfl, hb1⟩
    simp only [World.size_alloc] at hb1
    have hx1 := boxcell hb1
    have hb1 := hide ((bel1 w _).trans (hb1.mono (by simp)))
    go_wp2_with fail
    refine (unhide HSH _ (unhide hb1) (by have := (unhide HK).1; omega) (unhide HK).2.1 (unhide HK).2.2).mono ?_
    rintro e w2 ⟨h, S, rfl, hsh, hS, hb2⟩
    obtain ⟨gl, gf, bm, ls, free, order, cl, vf, D, hp⟩ := hsh
    obtain ⟨c0, c1, c2, c3, c4, c5, c6⟩ := hp.mem.box.cells
    have HB2 := hide ((unhide hb1).trans (hb2.mono (unhide hb1).size))
    clear c0 c1 c3 c4 c5 c6 hp hS hb2 hx1
    go_wp2
    go_ret2
    exact ⟨ChargeOfL.ret_ib (unhide H).symm, unhide HB2⟩
end Shelf
namespace Shelf
open Go.RowKit Base Items Keep Own Chain Store GoodKey
set_option linter.unusedVariables false

set_option maxRecDepth 10000 in
set_option maxHeartbeats 2000000 in
theorem findItem_opt (lim nx : Int) (ia : Option Addr) (cap : Nat) (its : List Itm) (now : Int) (key : ByteArray) (w : World) (hc : ItemsAt w ia its) (hl : its.length ≤ 1048576) (hcap : its.length ≤ cap) (hs : ∀ x ∈ its, Fits x) (hkey : key.size ≤ 1048576) :
    Calls Tryz.prog 9 #[.agg #[.int .i64 lim, .int .i64 nx, .slice ia its.length cap], .int .i64 now, .string key] w fun e w' => e = .returned (findV (findB lim nx its now key)) ∧ Below w.heap.size w w' := by
  have hgood := fun w' (hb' : Below w.heap.size w w') => Store.impl_opt lim nx ia cap its w' (hc.below hb' (Nat.le_refl _)) (by unfold maxLen; omega) hcap hs
  have hshelf := fun w' (hb' : Below w.heap.size w w') hl' hs' hk' => shelfOf_opt lim nx ia cap its w' (hc.below hb' (Nat.le_refl _)) hl' hs' hk'
  have HSH := hide hshelf
  clear hc hs hshelf
  cases g1 : gsB lim nx its
  · have H : Hid (findB lim nx its now key = none) := by show findB lim nx its now key = _; simp [findB, g1]
    rw [g1] at hgood
    have HG := hide hgood
    clear hgood g1
    go_enter Tryz.func9, Tryz.ntmps9
    go_wp2_with fail
    refine (unhide HG _ (bel2 w _ _)).mono ?_
    rintro e w1 ⟨rfl, hb1⟩
    simp only [World.size_alloc] at hb1
    have hB1 := hide ((bel2 w _ _).trans (hb1.mono (by omega)))
    have hr := fun o => hb1.cell (p := ⟨w.heap.size + 1, o, none⟩) (by simp)
    have hrf := fun o => hb1.frozen (p := ⟨w.heap.size + 1, o, none⟩) (by simp)
    clear hb1
    go_wp2
    refine bodyPost_ret (v := .tuple #[.agg #[.string ⟨#[]⟩, .int .i64 0, .string ⟨#[]⟩, .int .i64 0, .int .i64 0], .bool false]) (by simp [results, Tryz.results9, go_sem, hr]; done) rfl ⟨ret_find (p := findB lim nx its now key) (o := none) (unhide H).symm, ?_⟩
    repeat (refine Below.setCell ?_ (by first | (simp; done) | (simp; omega)) _)
    exact unhide hB1
  have HK := hide (good_keys g1)
  rw [g1] at hgood
  have HG := hide hgood
  clear hgood
  cases g2 : inB now 0 1000000000
  · have H : Hid (findB lim nx its now key = none) := by show findB lim nx its now key = _; simp [findB, g2]
    clear g1
    go_enter Tryz.func9, Tryz.ntmps9
    go_wp2_with fail
    refine (unhide HG _ (bel2 w _ _)).mono ?_
    rintro e w1 ⟨rfl, hb1⟩
    simp only [World.size_alloc] at hb1
    have hB1 := hide ((bel2 w _ _).trans (hb1.mono (by omega)))
    have hr := fun o => hb1.cell (p := ⟨w.heap.size + 1, o, none⟩) (by simp)
    have hrf := fun o => hb1.frozen (p := ⟨w.heap.size + 1, o, none⟩) (by simp)
    clear hb1
    go_wp2_with (go_at_call 14; refine (goodNow_any _ _).mono ?_; rintro e w2 ⟨rfl, rfl⟩)
    refine bodyPost_ret (v := .tuple #[.agg #[.string ⟨#[]⟩, .int .i64 0, .string ⟨#[]⟩, .int .i64 0, .int .i64 0], .bool false]) (by simp [results, Tryz.results9, go_sem, hr]; done) rfl ⟨ret_find (p := findB lim nx its now key) (o := none) (unhide H).symm, ?_⟩
    repeat (refine Below.setCell ?_ (by first | (simp; done) | (simp; omega)) _)
    exact unhide hB1
  have H := hide (find_kept (key := key) g1 g2)
  clear g1
  have hfind : Hid (∀ (w' : World) (h : Nat) (S : List Nat), Shelf w' h S lim nx 0 (keepB its now) → ∃ x c, findV (findB lim nx its now key) = .tuple #[itemV x, .bool c] ∧ Small x ∧
      Calls Tryz.prog 28 #[.pointer (some ⟨h, 0, none⟩), .string key] w' fun e w'' => e = .returned (.tuple #[itemV x, .bool c]) ∧ Below w'.heap.size w' w'') := by
    intro w' h S hsh
    have hkm : key.size ≤ maxLen := by unfold maxLen; omega
    rw [unhide H]
    cases e : atN (keepB its now) key with
    | none => exact ⟨zero, false, rfl, small_zero, find_none w' h S lim nx 0 _ key hsh hkm e⟩
    | some k => exact ⟨_, true, rfl, small_getD (shelf_keys hsh).2 k (at_split e).1, find_hit w' h S lim nx 0 _ key k hsh hkm e⟩
  clear H
  go_enter Tryz.func9, Tryz.ntmps9
  go_wp2_with fail
  refine (unhide HG _ (bel2 w _ _)).mono ?_
  rintro e w1 ⟨rfl, hb1⟩
  simp only [World.size_alloc] at hb1
  have hB1 := hide ((bel2 w _ _).trans (hb1.mono (by omega)))
  have hr := fun o => hb1.cell (p := ⟨w.heap.size + 1, o, none⟩) (by simp)
  have hrf := fun o => hb1.frozen (p := ⟨w.heap.size + 1, o, none⟩) (by simp)
  have hs0 := fun o => hb1.cell (p := ⟨w.heap.size, o, none⟩) (by simp; omega)
  have hz1 : w.heap.size + 2 ≤ w1.heap.size := by have := hb1.size; simp at this; omega
  clear hb1
  go_wp2_with (go_at_call 14; refine (goodNow_any _ _).mono ?_; rintro e w2 ⟨rfl, rfl⟩)
  refine (unhide HSH _ (unhide hB1) (by have := (unhide HK).1; omega) (unhide HK).2.1 (unhide HK).2.2).mono ?_
  rintro e w2 ⟨h, S, rfl, hsh, hS, hb2⟩
  have hr2 := fun o => (hb2.cell (p := ⟨w.heap.size + 1, o, none⟩) (by simp; omega)).trans (hr o)
  have hrf2 := fun o => (hb2.frozen (p := ⟨w.heap.size + 1, o, none⟩) (by simp; omega)).trans (hrf o)
  have hB2 := hide ((unhide hB1).trans (hb2.mono (by omega)))
  have hz2 : w.heap.size + 2 ≤ w2.heap.size := by have := hb2.size; omega
  have HS : Hid (∀ y ∈ S, w.heap.size + 2 ≤ y) := fun y hy => by have := hS y hy; omega
  have HSh := hide hsh
  clear hr hrf hb2 hS hsh hs0
  go_wp2_with fail
  refine (dropOld_shelf _ h S lim nx 0 its now (unhide HSh) (by have := (unhide HK).1; omega)).mono ?_
  rintro e w3 ⟨rfl, S3, hsh3, hS3, hk3⟩
  have hns : ∀ c, c < w.heap.size + 2 → c ∉ S := fun c hcl hm => by have := unhide HS c hm; omega
  have hr3 := fun o => (hk3.cell (b := w.heap.size + 1) (o := o) (by omega) (hns _ (by omega))).trans (hr2 o)
  have hrf3 := fun o => (hk3.frozen (b := w.heap.size + 1) (o := o) (by omega) (hns _ (by omega))).trans (hrf2 o)
  have hB3 := hide ((unhide hB2).trans (hk3.below (B := w.heap.size) (fun y hy => by have := unhide HS y hy; omega) (by omega)))
  have hz3 : w.heap.size + 2 ≤ w3.heap.size := by have := hk3.size; omega
  obtain ⟨x, c, hfv, hsx, hcall⟩ := unhide hfind _ _ _ hsh3
  have HFV := hide hfv
  have HSX := hide hsx
  have HCALL := hide hcall
  clear hr2 hrf2 hk3 hS3 hsh3 hfv hsx hcall hfind
  go_wp2_with fail
  refine (unhide HCALL).mono ?_
  rintro e w4 ⟨rfl, hb4⟩
  have hr4 := fun o => (hb4.cell (p := ⟨w.heap.size + 1, o, none⟩) (by simp; omega)).trans (hr3 o)
  have hrf4 := fun o => (hb4.frozen (p := ⟨w.heap.size + 1, o, none⟩) (by simp; omega)).trans (hrf3 o)
  have hB4 := hide ((unhide hB3).trans (hb4.mono (by omega)))
  have hz4 : w.heap.size + 1 < w4.heap.size := by have := hb4.size; omega
  clear hb4 hr3 hrf3
  unfold itemV
  go_wp2_with fail
  refine (copyOf_any x _ (unhide HSX)).mono ?_
  rintro e w5 ⟨rfl, hb5⟩
  have hr5 := fun o => (hb5.cell (p := ⟨w.heap.size + 1, o, none⟩) (by simp; omega)).trans ((World.cell?_of_block (a := ⟨w.heap.size + 1, o, none⟩) (Below.heap_alloc _ _ _ hz4)).trans (hr4 o))
  have hrf5 := fun o => (hb5.frozen (p := ⟨w.heap.size + 1, o, none⟩) (by simp; omega)).trans ((World.frozen?_of_block (a := ⟨w.heap.size + 1, o, none⟩) (Below.heap_alloc _ _ _ hz4)).trans (hrf4 o))
  have hB5 := hide (((unhide hB4).alloc (by omega) _).trans (hb5.mono (by simp; omega)))
  have hz5 : w.heap.size + 1 < w5.heap.size := by have := hb5.size; simp at this; omega
  clear hb5 hr4 hrf4
  unfold itemV
  go_wp2
  refine bodyPost_ret (v := .tuple #[itemV x, .bool c]) (by simp [results, Tryz.results9, go_sem, hr5, itemV]; done) rfl ⟨by rw [unhide HFV], ?_⟩
  repeat (refine Below.setCell ?_ (by first | (simp; done) | (simp; omega)) _)
  exact unhide hB5
end Shelf
end Go.Proofs.YtkdcofmpbmiloaaGreatDoor
