/-
  The contract of the program's GoodCmd: it answers by the plain function gcB, for every command whose keys lie in memory.
-/
import Derived.Test.YtncmehgjpifinacGoodCmdI
namespace Go.Proofs.Ytncmehgjpifinac
namespace GoodCmdI
open Go.RowKit Base GoodKey Kind GoodCmd
set_option linter.unusedVariables false

set_option maxHeartbeats 4000000 in
theorem impl_any (nm : ByteArray) (b off cap : Nat) (ks : List ByteArray) (f x n : Int) (dt : ByteArray) (q : Bool) (w : World) (hb : b < w.heap.size)
    (hc : ∀ i, i < ks.length → w.cell? ⟨b, off + i, none⟩ = some (.string (ks.getD i ByteArray.empty)))
    (hl : ks.length ≤ maxLen) (hs : ∀ s ∈ ks, s.size ≤ maxLen) (hd : dt.size ≤ maxLen) :
    Calls Try.prog 9 #[.agg #[.string nm, .slice (some ⟨b, off, none⟩) ks.length cap, .int .i64 f, .int .i64 x, .int .i64 n, .string dt, .bool q]] w fun e w' =>
      e = .returned (.bool (gcB (kindN nm.toList) ks f x n dt q)) ∧ Below w.heap.size w w' := by
  have hk := kindN_bd nm.toList
  generalize hK : kindN nm.toList = K at hk ⊢
  by_cases hk0 : K = 0
  · subst hk0
    have HK := hide hK
    clear hK hk
    go_enter Try.func9, Try.ntmps9
    go_wp2_with fail
    refine (Kind.impl_any _ _).mono ?_
    rintro e w1 ⟨rfl, rfl⟩
    rw [unhide HK]
    go_wp2
    go_ret
    exact ⟨rfl, bel1 w _⟩
  have hkb : (K == 0) = false := by simp [hk0]
  have h1 : 1 ≤ K := by omega
  have h7 : K ≤ 7 := hk.2
  have hfc := fun w => form_any K w h1 h7
  have hgc := gcB_form K h1 h7 ks f x n dt q
  generalize formN K = F at hfc hgc
  obtain ⟨lo, hi, bf, bx, bd, bn, bq⟩ := F
  dsimp only at hfc hgc
  have HF := hide hfc
  have HG := hide hgc
  have HK := hide hK
  have HC := hide hc
  have HS := hide hs
  have HL := hide hl
  unfold maxLen at hl hd
  clear hfc hgc hK hc hs hk0 hk
  cases hg : (inB ks.length lo hi && ks.all gkb)
  all_goals
    have Hg := hide hg
    clear hg
    go_enter Try.func9, Try.ntmps9
    go_wp2_with fail
    refine (Kind.impl_any _ _).mono ?_
    rintro e w1 ⟨rfl, rfl⟩
    rw [unhide HK]
    go_wp2_with fail
    refine (unhide HF _).mono ?_
    rintro e w2 ⟨rfl, hb2⟩
    have hB2 : Hid (Below w.heap.size w w2) := (bel1 w _).trans (hb2.mono (by simp))
    obtain ⟨hc2, hf2⟩ := bcell hb2 (Nat.le_refl _)
    have hz2 : w.heap.size < w2.heap.size := by have := hb2.size; simp at this; omega
    clear hb2
    go_wp2_with fail
    refine (KeysI.keys_any b off cap ks lo hi _ ?_ ?_ (unhide HL) (unhide HS)).mono ?_
    · have := (unhide hB2).size; simp; omega
    · intro i hlt
      rw [((unhide hB2).alloc (by omega) _).cell (p := ⟨b, off + i, none⟩) hb]
      exact unhide HC i hlt
    rintro e w3 ⟨rfl, hb3⟩
    have hB3 : Hid (Below w.heap.size w w3) := ((unhide hB2).alloc (by omega) _).trans (hb3.mono (by simp; omega))
    obtain ⟨hc3, hf3⟩ := bcell hb3 (Nat.le_refl _)
    have hz3 : w2.heap.size < w3.heap.size := by have := hb3.size; simp at this; omega
    clear hb3
    rw [unhide Hg]
  · go_wp2
    go_ret
    exact ⟨ret_bool (by rw [unhide HG]; exact form_g (unhide Hg)), unhide hB3⟩
  · go_wp2_with (go_at_call 27; refine (number_any _ _ _).mono ?_; rintro e w4 ⟨rfl, rfl⟩)
    all_goals
      go_ret
      refine ⟨ret_bool ?_, unhide hB3⟩
      rw [unhide HG]
      first
        | exact form_f (Bool.eq_false_iff.2 ‹_›)
        | exact form_x (Bool.eq_false_iff.2 ‹_›)
        | exact form_n (Bool.eq_false_iff.2 ‹_›)
        | exact form_d (dat_non ‹_› ‹_›)
        | skip
    · rw [form_fin (unhide Hg) ‹numB bf f = true› ‹numB bx x = true› ‹numB bn n = true› (dat_zero ‹dt.toList = []›), ‹q = true›]; rfl
    · rw [form_fin (unhide Hg) ‹numB bf f = true› ‹numB bx x = true› ‹numB bn n = true› (dat_zero ‹dt.toList = []›), Bool.eq_false_iff.2 ‹¬ q = true›]; rfl
    · rw [form_fin (unhide Hg) ‹numB bf f = true› ‹numB bx x = true› ‹numB bn n = true› (dat_big ‹bd = true› ‹(dt.size : Int) ≤ 100›), ‹q = true›]; rfl
    · rw [form_fin (unhide Hg) ‹numB bf f = true› ‹numB bx x = true› ‹numB bn n = true› (dat_big ‹bd = true› ‹(dt.size : Int) ≤ 100›), Bool.eq_false_iff.2 ‹¬ q = true›]; rfl
    · exact form_d (dat_no (by omega))
end GoodCmdI
end Go.Proofs.Ytncmehgjpifinac
