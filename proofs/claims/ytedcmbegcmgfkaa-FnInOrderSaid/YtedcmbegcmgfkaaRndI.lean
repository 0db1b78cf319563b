/-
  The program's openIds: the ids of the slots that are not done, in a row of its own.
-/
import Derived.Test.YtedcmbegcmgfkaaRndA
import Derived.Test.YtedcmbegcmgfkaaIntN
import Derived.Laws.AppendOwn
import Derived.WalkSpells
import Derived.Lib.SliceRun
namespace Go.Proofs.Ytedcmbegcmgfkaa
namespace Rnd
open Go.RowKit Base Slots Sess Marks OwnR Ints
set_option linter.unusedVariables false

/-- A slice of numbers in a row that the call has made, above B. -/
def OwnI (w : World) (B : Nat) (v : Value) (l : List Int) : Prop := w.ownsRow B 3 1 v l.length (cells l)

set_option maxRecDepth 10000 in
set_option maxHeartbeats 2000000 in
theorem openIds_any (b fi : Nat) (nx : Int) (l : List D) (w : World) (h : RAt w b nx fi l) :
    Calls Try.prog 15 #[.pointer (some ⟨b, 0, none⟩)] w fun e w' =>
      ∃ a c, e = .returned (.slice a (openL l).length c) ∧ OwnI w' w.heap.size (.slice a (openL l).length c) (openL l) ∧ Below w.heap.size w w' := by
  obtain ⟨i0, hi, hz0, hz1, hz2⟩ := Ints.info_ex
  have HI := hide hi
  have HZ0 := hide hz0
  have HZ1 := hide hz1
  have HZ2 := hide hz2
  have hlt := h.lt
  have hlen := h.len
  have c2 := h.c2
  have HR := hide (fun w' (hb : Below w.heap.size w w') => h.below hb hlt)
  have HA := hide (fun (k : Nat) (hk : k < 30) w (h : RAt w b nx fi l) => at_any b k fi nx l w h hk)
  have HT := hide (openL_take l)
  have HL := hide (fun k => openL_len (l.take k))
  have HALL := hide (openL_all l)
  clear hi hz0 hz1 hz2 h
  go_enter Try.func15, Try.ntmps15
  go_wp2
  clear c2
  go_loopw [3, 10] (fun sv iv wr => ∃ (k : Nat) (v : Value), k ≤ l.length ∧ v = sv ∧ iv = .int .i64 k ∧ Hid (OwnI wr w.heap.size v (openL (l.take k))) ∧ Hid (Below w.heap.size w wr)) (fun _ iv _ => l.length - (intOf iv).toNat)
  case atStart => exact ⟨0, _, Nat.zero_le _, rfl, rfl, hide (World.ownsRow_nil _ _ _ _), hide (Below.refl _ _)⟩
  case round =>
    obtain ⟨k, v, hk, hv, rfl, hown, hbel⟩ := hrel
    subst hv
    by_cases hkl : k < l.length
    · have R1 := hide (unhide HR _ (unhide hbel))
      obtain ⟨d0, d1, d2⟩ := (unhide R1).slot k hkl
      have ht := unhide HT k hkl
      have hn : (openL (l.take k)).length ≤ 30 := by
        have := unhide HL k
        have : (l.take k).length ≤ l.length := List.length_take_le' k l
        omega
      have hbw := (unhide R1).lt
      generalize l.getD k zero = x at d0 d1 d2 ht
      generalize openL (l.take k) = kept at hown ht hn
      obtain ⟨xi, xd, xa⟩ := x
      dsimp only at d0 d1 d2 ht
      cases xd
      · have HT1 := hide (ht.trans (if_neg (by simp)))
        clear ht
        go_wp2_with fail
        refine (unhide HA k (by omega) _ (unhide R1)).mono ?_
        rintro e w1 ⟨rfl, n, hw1⟩
        have hB1 : Hid (Below w.heap.size w w1) := by rw [hw1]; exact bel_draws (unhide hbel) n
        have hO1 : Hid (OwnI w1 w.heap.size v kept) := by rw [hw1]; exact own_below (unhide hown) (bel_draws (Below.refl _ _) n) (Nat.le_refl _)
        have hz1 : wr.heap.size ≤ w1.heap.size := by rw [hw1]; exact Nat.le_refl _
        have e0 : w1.cell? ⟨b, pos fi k, none⟩ = some (.int .i64 xi) := by rw [hw1]; exact d0
        have e1 : w1.cell? ⟨b, pos fi k + 1, none⟩ = some (.bool false) := by rw [hw1]; exact d1
        have hbw1 : b < w1.heap.size := by omega
        clear hw1 d0 d1 d2 hown
        have hs := hide ((unhide hB1).size)
        go_wp2_with (at_builtin; go_loud (refine wpList_append_own _ rfl _ _ 23 rfl w.heap.size 3 i0 _ 1 8 Try.underlying23 (unhide HI) (unhide HZ0) (unhide HZ1) (unhide HZ2) rfl (by decide) _ _ _ rfl ((unhide hO1).alloc _) ⟨w1.heap.size, 0, none⟩ 1 1 [.int .i64 xi] rfl rfl ?c1 ?c2 ?c3 ?c4 ?c5 ?_))
        case c1 => exact news_cells w1 xi _
        case c2 => exact news_one xi
        case c3 => unfold maxLen; omega
        case c4 => omega
        case c5 => have := unhide hs; simp; omega
        intro v' w2 hown' hgrow _
        have O2 := hide (Ints.own_snoc (kept' := kept ++ [xi]) hown' rfl)
        have B2 := hide (((unhide hB1).alloc (unhide hs) _).grown hgrow (by have := unhide hs; simp; omega) (fun g e => own_block (unhide hO1) g e))
        clear hown' hgrow
        go_wp2
        go_roundw
        case rel => exact ⟨k + 1, _, by omega, rfl, by go_num, hide (by rw [unhide HT1]; exact unhide O2), B2⟩
        case measure => simp [intOf]; omega
      · have HT1 := hide (ht.trans (if_pos rfl))
        clear ht
        go_wp2_with fail
        refine (unhide HA k (by omega) _ (unhide R1)).mono ?_
        rintro e w1 ⟨rfl, n, rfl⟩
        have hB1 := hide (bel_draws (unhide hbel) n)
        have hO1 := hide (own_below (unhide hown) (bel_draws (Below.refl _ wr) n) (Nat.le_refl _))
        go_wp2
        go_roundw
        case rel => exact ⟨k + 1, _, by omega, rfl, by go_num, hide (by rw [unhide HT1]; exact unhide hO1), hB1⟩
        case measure => simp [intOf]; omega
    · obtain rfl : k = l.length := by omega
      rw [unhide HALL] at hown
      obtain ⟨a, c, rfl⟩ := own_form (unhide hown)
      go_wp2
      go_ret
      exact ⟨a, c, rfl, unhide hown, unhide hbel⟩
end Rnd
end Go.Proofs.Ytedcmbegcmgfkaa
