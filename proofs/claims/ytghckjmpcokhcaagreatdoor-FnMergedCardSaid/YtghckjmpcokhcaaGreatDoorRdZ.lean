/-
  The program's wordReader: next, key, number.
-/
import Derived.Test.YtghckjmpcokhcaaGreatDoorRdY
import Derived.Test.YtghckjmpcokhcaaGreatDoorCountV
import Derived.Test.YtghckjmpcokhcaaGreatDoorHashZ
import Derived.Test.YtghckjmpcokhcaaGreatDoorGoodKeyC
import Derived.Test.YtghckjmpcokhcaaGreatDoorMarkZ
namespace Go.Proofs.YtghckjmpcokhcaaGreatDoor
namespace Rd
open Go.RowKit Base Items Store GoodKey NumText Sp Count Vals Marks
set_option linter.unusedVariables false

def toff (o c : Nat) : Nat := if c = 1 then o else o + 1
set_option maxRecDepth 100000 in
theorem slice_one (b o n c : Nat) (hs : 1 ≤ n) (w : World) :
    (Instr.slice 24 (.slice (some ⟨b, o, none⟩) n c) (some (.int .i64 1)) none none).run Tryz.prog w = .ok (.slice (some ⟨b, toff o c, none⟩) (n - 1) (c - 1)) w := by
  have ht : Tryz.prog.underlying 24 = some (.slice (Tryz.prog.elem 24)) := by kernel_rfl
  have hz : (sizeOf (Tryz.prog.elem 24)).run Tryz.prog w = .ok 1 w := Tryz.sizeOf9 w
  have h := run_slice_l w 24 (some ⟨b, o, none⟩) n c ht .i64 (1 : Nat) (by omega) (by omega)
  rw [show ((1 : Nat) : Int) = 1 from rfl] at h
  rw [h, hz]
  simp only [Result.andThen_ok, sliced, toff]
  by_cases h : c = 1
  · rw [if_pos h]; simp [h]
  · rw [if_neg h]
    simp [h, Go.WideShapes.add_plain]
/-- The reader's box, and the words that are left. -/
def RB (w : World) (b : Nat) (s : St) : Prop := ∃ a cap, w.heap[b]? = some (.cells #[.slice a s.ws.length cap, .bool s.bad] 132 (0, 0)) ∧ s.ws.length ≤ cap ∧ (s.ws ≠ [] → ∃ g off, a = some ⟨g, off, none⟩ ∧ g < b ∧ ∀ i, i < s.ws.length → w.cell? ⟨g, off + i, none⟩ = some (.string (s.ws.getD i ByteArray.empty)))
theorem RB.lt {w : World} {b : Nat} {s : St} (h : RB w b s) : b < w.heap.size := by
  obtain ⟨a, cap, h, _⟩ := h
  exact (Array.getElem?_eq_some_iff.1 h).1
theorem RB.of {w w' : World} {b : Nat} {s : St} (h : RB w b s) (e : ∀ k, k ≤ b → w'.heap[k]? = w.heap[k]?) : RB w' b s := by
  obtain ⟨a, cap, h1, h2, h3⟩ := h
  refine ⟨a, cap, (e b (Nat.le_refl _)).trans h1, h2, fun hne => ?_⟩
  obtain ⟨g, off, ha, hg, hc⟩ := h3 hne
  exact ⟨g, off, ha, hg, fun i hi => (World.cell?_of_block (a := ⟨g, off + i, none⟩) (e g (by omega))).trans (hc i hi)⟩
theorem RB.below {w w' : World} {b : Nat} {s : St} (h : RB w b s) (hb : Below w.heap.size w w') : RB w' b s := h.of (fun k hk => hb.block k (by have := h.lt; omega))
theorem rb_bad {w : World} {b n c : Nat} {a : Option Addr} {f u : Bool} (h : w.heap[b]? = some (.cells #[.slice a n c, .bool f] 132 (0, 0))) : (w.setCell ⟨b, 1, none⟩ (.bool u)).heap[b]? = some (.cells #[.slice a n c, .bool u] 132 (0, 0)) := by
  simp [World.setCell, Array.getElem?_modify, h]
theorem rb_ws {w : World} {b n c m d : Nat} {a a' : Option Addr} {f : Bool} (h : w.heap[b]? = some (.cells #[.slice a n c, .bool f] 132 (0, 0))) : (w.setCell ⟨b, 0, none⟩ (.slice a' m d)).heap[b]? = some (.cells #[.slice a' m d, .bool f] 132 (0, 0)) := by
  simp [World.setCell, Array.getElem?_modify, h]
theorem rb_cells {w : World} {b n c : Nat} {a : Option Addr} {f : Bool} (h : w.heap[b]? = some (.cells #[.slice a n c, .bool f] 132 (0, 0))) : w.cell? ⟨b, 0, none⟩ = some (.slice a n c) ∧ w.cell? ⟨b, 1, none⟩ = some (.bool f) ∧ (∀ o, w.frozen? ⟨b, o, none⟩ = false) ∧ b < w.heap.size :=
  ⟨by simp [World.cell?, h], by simp [World.cell?, h], fun o => by simp [World.frozen?, h], (Array.getElem?_eq_some_iff.1 h).1⟩
theorem RB.setBad {w : World} {b : Nat} {s : St} (h : RB w b s) (u : Bool) : RB (w.setCell ⟨b, 1, none⟩ (.bool u)) b ⟨s.ws, u⟩ := by
  obtain ⟨a, cap, h1, h2, h3⟩ := h
  refine ⟨a, cap, rb_bad h1, h2, fun hne => ?_⟩
  obtain ⟨g, off, ha, hg, hc⟩ := h3 hne
  exact ⟨g, off, ha, hg, fun i hi => (World.cell?_of_block (a := ⟨g, off + i, none⟩) (Below.heap_setCell w ⟨b, 1, none⟩ _ g (by show g ≠ b; omega))).trans (hc i hi)⟩

set_option maxRecDepth 10000 in
set_option maxHeartbeats 1000000 in
theorem next_any (b : Nat) (s : St) (w : World) (h : RB w b s) : Calls Tryz.prog 88 #[.pointer (some ⟨b, 0, none⟩)] w fun e w' => e = .returned (.string (nx s).1) ∧ RB w' b (nx s).2 ∧ w.grownBy w' (some b) := by
  obtain ⟨ws, bad⟩ := s
  cases ws with
  | nil =>
    have hB := hide (RB.setBad h true)
    obtain ⟨a, cap, h1, h2, h3⟩ := h
    obtain ⟨c0, c1, cf, cl⟩ := rb_cells h1
    clear h1 h2 h3
    dsimp only [List.length_nil] at c0
    go_enter Tryz.func88, Tryz.ntmps88
    go_wp2
    go_ret
    exact ⟨rfl, unhide hB, gb_set (gb_refl w _) 1 _⟩
  | cons x r =>
    obtain ⟨a, cap, h1, h2, h3⟩ := h
    obtain ⟨g, off, rfl, hg, hc⟩ := h3 (by simp)
    obtain ⟨c0, c1, cf, cl⟩ := rb_cells h1
    have d0 : w.cell? ⟨g, off, none⟩ = some (.string x) := hc 0 (by simp)
    have hsl := slice_one g off (r.length + 1) cap (by omega)
    simp only [Nat.add_sub_cancel] at hsl
    have hR : Hid (RB (w.setCell ⟨b, 0, none⟩ (.slice (some ⟨g, toff off cap, none⟩) r.length (cap - 1))) b ⟨r, bad⟩) := by
      refine ⟨_, cap - 1, rb_ws h1, by simp at h2; show r.length ≤ _; omega, fun hne => ?_⟩
      have hl : 0 < r.length := List.length_pos_iff.2 hne
      have ht : toff off cap = off + 1 := by unfold toff; rw [if_neg (by simp at h2; omega)]
      rw [ht]
      refine ⟨g, off + 1, rfl, hg, fun i hi => ?_⟩
      rw [World.cell?_of_block (a := ⟨g, off + 1 + i, none⟩) (Below.heap_setCell w ⟨b, 0, none⟩ _ g (by show g ≠ b; omega))]
      have := hc (i + 1) (by simp at hi ⊢; exact hi)
      rw [show off + (i + 1) = off + 1 + i by omega] at this
      rw [this]; rfl
    have hgl : g < w.heap.size := by omega
    dsimp only [List.length_cons] at c0
    clear h1 h2 h3 hc
    go_enter Tryz.func88, Tryz.ntmps88
    go_wp2
    go_ret
    exact ⟨rfl, unhide hR, gb_set (gb_refl w _) 0 _⟩

/-- What the words are like: none is too long. -/
def Short (ws : List ByteArray) : Prop := ∀ a ∈ ws, a.size ≤ 1048576
theorem nx_short {s : St} (h : Short s.ws) : (nx s).1.size ≤ 1048576 ∧ Short (nx s).2.ws := by
  unfold nx
  split
  · exact ⟨by simp, by simp [Short]⟩
  · rename_i a r e
    rw [e] at h
    exact ⟨h a (by simp), fun b hb => h b (by simp [hb])⟩

set_option maxRecDepth 10000 in
set_option maxHeartbeats 1000000 in
theorem key_any (b : Nat) (s : St) (w : World) (h : RB w b s) (hs : Short s.ws) : Calls Tryz.prog 89 #[.pointer (some ⟨b, 0, none⟩)] w fun e w' => e = .returned (.string (ky s).1) ∧ RB w' b (ky s).2 ∧ w.grownBy w' (some b) := by
  have HN := hide (next_any b s w h)
  obtain ⟨hz, -⟩ := nx_short hs
  have HK : Hid (ky s = ((nx s).1, ⟨(nx s).2.ws, (nx s).2.bad || !gk (bl (nx s).1)⟩)) := rfl
  rw [unhide HK]
  generalize nx s = p at HN hz ⊢
  obtain ⟨x, st⟩ := p
  obtain ⟨ws, bad⟩ := st
  dsimp only at HN hz ⊢
  clear h hs HK
  have HG := hide (fun w => GoodKey.impl_any x w (by unfold maxLen; omega))
  generalize gk (bl x) = q at HG ⊢
  cases bad
  · go_enter Tryz.func89, Tryz.ntmps89
    go_wp2_with fail
    refine (unhide HN).mono ?_
    rintro e w1 ⟨rfl, hr1, hg1⟩
    have R1 := hide hr1
    have G1 := hide hg1
    clear hr1 hg1
    go_wp2_with fail
    refine (CloneS.clone_any x _ hz).mono ?_
    rintro e w2 ⟨rfl, hb2⟩
    have R2 := hide ((unhide R1).below hb2)
    have G2 := hide (gb_trans (unhide G1) (gb_below hb2 (Nat.le_refl _)))
    clear hb2 R1 G1
    obtain ⟨a, cap, h1, h2, h3⟩ := unhide R2
    obtain ⟨c0, c1, cf, cl⟩ := rb_cells h1
    clear h1 h2 h3 c0
    go_wp2_with fail
    refine (unhide HG _).mono ?_
    rintro e w3 ⟨rfl, hw3⟩
    rw [hw3]
    clear hw3 w3
    have R3 := hide ((unhide R2).setBad (!q))
    cases q
    all_goals
      go_wp2
      go_ret
      exact ⟨rfl, unhide R3, gb_set (unhide G2) 1 _⟩
  · go_enter Tryz.func89, Tryz.ntmps89
    go_wp2_with fail
    refine (unhide HN).mono ?_
    rintro e w1 ⟨rfl, hr1, hg1⟩
    have R1 := hide hr1
    have G1 := hide hg1
    clear hr1 hg1
    go_wp2_with fail
    refine (CloneS.clone_any x _ hz).mono ?_
    rintro e w2 ⟨rfl, hb2⟩
    have R2 := hide ((unhide R1).below hb2)
    have G2 := hide (gb_trans (unhide G1) (gb_below hb2 (Nat.le_refl _)))
    clear hb2 R1 G1
    obtain ⟨a, cap, h1, h2, h3⟩ := unhide R2
    obtain ⟨c0, c1, cf, cl⟩ := rb_cells h1
    clear h1 h2 h3 c0
    have R3 := hide ((unhide R2).setBad true)
    go_wp2
    go_ret
    exact ⟨rfl, unhide R3, gb_set (unhide G2) 1 _⟩

set_option maxRecDepth 10000 in
set_option maxHeartbeats 1000000 in
theorem number_any (b : Nat) (s : St) (most : Int) (w : World) (h : RB w b s) (hs : Short s.ws) (h0 : 0 ≤ most) (h1 : most ≤ 1000000000) (hv : Count.Vars w) (hbv : Hid (∀ w', w.grownBy w' (some b) → Count.Vars w')) : Calls Tryz.prog 90 #[.pointer (some ⟨b, 0, none⟩), .int .i64 most] w fun e w' => e = .returned (.int .i64 (nm s most).1) ∧ RB w' b (nm s most).2 ∧ w.grownBy w' (some b) := by
  have HN := hide (next_any b s w h)
  obtain ⟨hz, -⟩ := nx_short hs
  have HK : Hid (nm s most = match rdB (bl (nx s).1) most with | some v => (v, (nx s).2) | none => (0, ⟨(nx s).2.ws, true⟩)) := rfl
  rw [unhide HK]
  generalize nx s = p at HN hz ⊢
  obtain ⟨x, st⟩ := p
  obtain ⟨ws, bad⟩ := st
  dsimp only at HN hz ⊢
  have HV := hide hv
  clear h hs HK hv
  have HR := hide (fun w' (hv : Count.Vars w') => Count.readNumber_any x most w' hz h0 (by omega) hv)
  have hx : bl x = x.data.toList := rfl
  rw [hx]
  cases hq : rdB x.data.toList most with
  | none =>
    rw [hq] at HR
    clear hq hx
    cases bad
    all_goals
      go_enter Tryz.func90, Tryz.ntmps90
      go_wp2_with fail
      refine (unhide HN).mono ?_
      rintro e w1 ⟨rfl, hr1, hg1⟩
      have R1 := hide hr1
      have G1 := hide hg1
      clear hr1 hg1
      go_wp2_with fail
      refine (unhide HR _ (unhide hbv _ (unhide G1))).mono ?_
      rintro e w2 ⟨rfl, hb2⟩
      unfold rdV
      have R2 := hide ((unhide R1).below hb2)
      have G2 := hide (gb_trans (unhide G1) (gb_below hb2 (Nat.le_refl _)))
      clear hb2 R1 G1
      obtain ⟨a, cap, h1, h2, h3⟩ := unhide R2
      obtain ⟨c0, c1, cf, cl⟩ := rb_cells h1
      clear h1 h2 h3 c0
      have R3 := hide ((unhide R2).setBad true)
      go_wp2
      go_ret
      exact ⟨rfl, unhide R3, gb_set (unhide G2) 1 _⟩
  | some v =>
    rw [hq] at HR
    clear hq hx
    cases bad
    all_goals
      go_enter Tryz.func90, Tryz.ntmps90
      go_wp2_with fail
      refine (unhide HN).mono ?_
      rintro e w1 ⟨rfl, hr1, hg1⟩
      have R1 := hide hr1
      have G1 := hide hg1
      clear hr1 hg1
      go_wp2_with fail
      refine (unhide HR _ (unhide hbv _ (unhide G1))).mono ?_
      rintro e w2 ⟨rfl, hb2⟩
      unfold rdV
      have R2 := hide ((unhide R1).below hb2)
      have G2 := hide (gb_trans (unhide G1) (gb_below hb2 (Nat.le_refl _)))
      clear hb2 R1 G1
      obtain ⟨a, cap, h1, h2, h3⟩ := unhide R2
      obtain ⟨c0, c1, cf, cl⟩ := rb_cells h1
      clear h1 h2 h3 c0
      first
        | (have R3 := hide ((unhide R2).setBad false); go_wp2; go_ret; exact ⟨rfl, unhide R3, gb_set (unhide G2) 1 _⟩)
        | (have R3 := hide ((unhide R2).setBad true); go_wp2; go_ret; exact ⟨rfl, unhide R3, gb_set (unhide G2) 1 _⟩)
end Rd
end Go.Proofs.YtghckjmpcokhcaaGreatDoor
/-
  The program's readData, and what it tells, as plain data.
-/
namespace Go.Proofs.YtghckjmpcokhcaaGreatDoor
namespace Rd
open Go.RowKit Base Items Store GoodKey NumText Sp Count Vals Marks
set_option linter.unusedVariables false

set_option maxRecDepth 10000 in
set_option maxHeartbeats 1000000 in
theorem data_short (s : ByteArray) (n : Nat) (w : World) (hs : s.size ≤ 1048576) (hn : n ≤ 100) (h : s.size < n + 2) : Calls Tryz.prog 91 #[.string s, .int .i64 (n : Int)] w fun e w' => e = .returned (.tuple #[.string ByteArray.empty, .int .i64 0, .int .i64 1]) ∧ Below w.heap.size w w' := by
  have hw : IntKind.i64.wrap ((n : Int) + 2) = (n : Int) + 2 := by rw [IntKind.wrap_i64]; omega
  have h1 : (s.size : Int) < (n : Int) + 2 := by omega
  go_enter Tryz.func91, Tryz.ntmps91
  go_wp2
  go_ret3
  exact ⟨rfl, Below.refl _ _⟩

set_option maxRecDepth 10000 in
set_option maxHeartbeats 1000000 in
theorem data_bad (s : ByteArray) (n : Nat) (w : World) (hs : s.size ≤ 1048576) (hn : n ≤ 100) (h : ¬ s.size < n + 2) (he : s.extract n (n + 2) ≠ Shelf.endS) : Calls Tryz.prog 91 #[.string s, .int .i64 (n : Int)] w fun e w' => e = .returned (.tuple #[.string ByteArray.empty, .int .i64 ((n : Int) + 2), .int .i64 3]) ∧ Below w.heap.size w w' := by
  have hw : IntKind.i64.wrap ((n : Int) + 2) = (n : Int) + 2 := by rw [IntKind.wrap_i64]; omega
  have h1 : ¬ (s.size : Int) < (n : Int) + 2 := by omega
  have h2 : (0 : Int) ≤ (n : Int) := by omega
  have h3 : (n : Int) ≤ (n : Int) + 2 := by omega
  have h4 : (n : Int) + 2 ≤ (s.size : Int) := by omega
  have h5 : ((n : Int) + 2).toNat = n + 2 := by omega
  have he' : ((s.extract n (n + 2)).toList == [13, 10]) = false := by
    have e : ({ data := #[13, 10] } : ByteArray).toList = [13, 10] := by rw [Lib.toList_data]
    rw [← e]; exact str_ne he
  go_enter Tryz.func91, Tryz.ntmps91
  go_wp2
  go_ret3
  exact ⟨rfl, Below.refl _ _⟩

set_option maxRecDepth 10000 in
set_option maxHeartbeats 1000000 in
theorem data_ok (s : ByteArray) (n : Nat) (w : World) (hs : s.size ≤ 1048576) (hn : n ≤ 100) (h : ¬ s.size < n + 2) (he : s.extract n (n + 2) = Shelf.endS) : Calls Tryz.prog 91 #[.string s, .int .i64 (n : Int)] w fun e w' => e = .returned (.tuple #[.string (s.extract 0 n), .int .i64 ((n : Int) + 2), .int .i64 0]) ∧ Below w.heap.size w w' := by
  have hw : IntKind.i64.wrap ((n : Int) + 2) = (n : Int) + 2 := by rw [IntKind.wrap_i64]; omega
  have h1 : ¬ (s.size : Int) < (n : Int) + 2 := by omega
  have h2 : (0 : Int) ≤ (n : Int) := by omega
  have h3 : (n : Int) ≤ (n : Int) + 2 := by omega
  have h4 : (n : Int) + 2 ≤ (s.size : Int) := by omega
  have h5 : ((n : Int) + 2).toNat = n + 2 := by omega
  have h6 : ¬ 100 < (n : Int) := by omega
  have h7 : (n : Int) ≤ (s.size : Int) := by omega
  have he' : ((s.extract n (n + 2)).toList == [13, 10]) = true := by
    have e : ({ data := #[13, 10] } : ByteArray).toList = [13, 10] := by rw [Lib.toList_data]
    rw [← e]; exact str_eq he
  have HC := hide (fun w' => CloneS.clone_any (s.extract 0 n) w' (by simp; omega))
  clear he
  go_enter Tryz.func91, Tryz.ntmps91
  go_wp2_with fail
  refine (unhide HC _).mono ?_
  rintro e w1 ⟨rfl, hb1⟩
  have B1 := hide hb1
  clear hb1
  go_wp2
  go_ret3
  exact ⟨rfl, unhide B1⟩
end Rd
end Go.Proofs.YtghckjmpcokhcaaGreatDoor
