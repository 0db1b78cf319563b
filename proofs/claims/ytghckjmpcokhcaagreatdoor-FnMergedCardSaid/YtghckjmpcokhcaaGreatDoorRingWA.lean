/-
  The program's search by halving and ownerIn: the name of the first point that is not below the key's hash, going round.
-/
import Derived.Test.YtghckjmpcokhcaaGreatDoorRingUZ
import Derived.Test.YtghckjmpcokhcaaGreatDoorRingZ
import Derived.Test.YtghckjmpcokhcaaGreatDoorGoodKeyC
import Derived.Outline
namespace Go.Proofs.YtghckjmpcokhcaaGreatDoor
namespace Ring
open Go.RowKit Base Points Marks
set_option linter.unusedVariables false

set_option maxRecDepth 10000 in
set_option maxHeartbeats 400000 in
theorem ownerCmp_any (x : D) (h : Int) (w : World) : Calls Tryz.prog 78 #[.agg #[.int .u32 x.pos, .string x.name], .int .u32 h] w fun e w' => e = .returned (.int .i64 (cmpI x.pos h)) ∧ Below w.heap.size w w' := by
  obtain ⟨p, m⟩ := x
  go_enter Tryz.func78, Tryz.ntmps78
  go_wp2_with (go_at_call 79; refine (compareU _ _ _).mono ?_; rintro e w' ⟨rfl, rfl⟩)
  go_ret
  exact ⟨rfl, bel1 w _⟩
theorem cmpI_lt (a b : Int) : decide (cmpI a b < 0) = decide (a < b) := by
  unfold cmpI
  by_cases h : a < b
  · simp [h]
  · rw [if_neg h]
    split <;> simp [h]
theorem at_pt {w : World} {g n : Nat} {t : TypeId} {L : List D} (h : RowAt w g t (n * 2) (icell L)) {i : Nat} (hi : i < n) : w.cell? ⟨g, i * 2, none⟩ = some (.int .u32 (L.getD i zero).pos) ∧ w.cell? ⟨g, i * 2 + 1, none⟩ = some (.string (L.getD i zero).name) := by
  refine ⟨?_, ?_⟩
  · rw [h.cell (by omega), icell, show (i * 2) % 2 = 0 by omega, show (i * 2) / 2 = i by omega]; simp
  · rw [h.cell (by omega), icell, show (i * 2 + 1) % 2 = 1 by omega, show (i * 2 + 1) / 2 = i by omega]; simp

set_option maxRecDepth 10000 in
set_option maxHeartbeats 2000000 in
theorem search_some (g cap n : Nat) (L : List D) (h : Int) (w : World) (hr : RowAt w g 118 (n * 2) (icell L)) (hn : L.length = n) (h1 : n ≤ 1000) (hs : Sorted L) :
    Calls Tryz.prog 76 #[.slice (some ⟨g, 0, none⟩) n cap, .int .u32 h, .func (.func 78) #[] #[]] w fun e w' =>
      ∃ (i : Nat) (fb : Bool), e = .returned (.tuple #[.int .i64 (i : Int), .bool fb]) ∧ i ≤ n ∧ Halved L h i i ∧ Below w.heap.size w w' := by
  have HR := hide hr
  have HN := hide hn
  have HS := hide hs
  have hglt := hr.lt
  clear hr hn hs
  go_enter Tryz.func76, Tryz.ntmps76
  go_wp2
  go_loopw [9, 10] (fun iv jv wr => ∃ (i j : Nat), iv = .int .i64 (i : Int) ∧ jv = .int .i64 (j : Int) ∧ i ≤ j ∧ j ≤ n ∧ Hid (Halved L h i j) ∧ Hid (Below w.heap.size w wr)) (fun iv jv _ => (intOf jv).toNat - (intOf iv).toNat)
  case atStart => exact ⟨0, n, rfl, rfl, Nat.zero_le _, Nat.le_refl _, hide (by have := halved_start L h; rwa [unhide HN] at this), hide (Below.refl _ _)⟩
  case round =>
    obtain ⟨i, j, rfl, rfl, hij, hjn, hH, hbel⟩ := hrel
    by_cases hlt : i < j
    · obtain ⟨c0, c1⟩ := at_pt ((unhide HR).below (unhide hbel) hglt) (show (i + j) / 2 < n by omega)
      have hlo := hide (halved_low (unhide HS) (unhide hH) (show i ≤ (i + j) / 2 by omega) (by omega))
      have hhi := hide (halved_high (unhide HS) (unhide hH) (show i ≤ (i + j) / 2 by omega) (by omega))
      have hm1 : i ≤ (i + j) / 2 := by omega
      have hm2 : (i + j) / 2 < j := by omega
      generalize L.getD ((i + j) / 2) zero = x at c0 c1 hlo hhi
      have hcl := fun w => ownerCmp_any x h w
      have hlt0 := cmpI_lt x.pos h
      generalize cmpI x.pos h = r at hcl hlt0
      have HCL := hide hcl
      clear hcl
      by_cases hx : x.pos < h
      · have hr0 : r < 0 := by have := hlt0.trans (decide_eq_true hx); simpa using this
        have HH := hide (unhide hlo hx)
        clear hlt0 hlo hhi
        go_wp2_with (go_at_call 78; refine (unhide HCL _).mono ?_; rintro e w1 ⟨rfl, hb1⟩; have HB1 := hide hb1)
        go_roundw
        case rel => exact ⟨(i + j) / 2 + 1, j, by go_num, rfl, by omega, hjn, HH, hide ((unhide hbel).trans ((unhide HB1).mono (unhide hbel).size))⟩
        case measure => simp [intOf]; omega
      · have hr0 : ¬ r < 0 := by have := hlt0.trans (decide_eq_false hx); simpa using this
        have HH := hide (unhide hhi (by omega))
        clear hlt0 hlo hhi
        go_wp2_with (go_at_call 78; refine (unhide HCL _).mono ?_; rintro e w1 ⟨rfl, hb1⟩; have HB1 := hide hb1)
        go_roundw
        case rel => exact ⟨i, (i + j) / 2, rfl, by go_num, by omega, by omega, HH, hide ((unhide hbel).trans ((unhide HB1).mono (unhide hbel).size))⟩
        case measure => simp [intOf]; omega
    · obtain rfl : i = j := by omega
      by_cases hin : i < n
      · obtain ⟨c0, c1⟩ := at_pt ((unhide HR).below (unhide hbel) hglt) hin
        generalize L.getD i zero = x at c0 c1
        have hcl := fun w => ownerCmp_any x h w
        generalize cmpI x.pos h = r at hcl
        have HCL := hide hcl
        clear hcl
        go_wp2_with (go_at_call 78; refine (unhide HCL _).mono ?_; rintro e w1 ⟨rfl, hb1⟩; have HB1 := hide hb1)
        go_ret2
        exact ⟨i, _, rfl, hjn, unhide hH, (unhide hbel).trans ((unhide HB1).mono (unhide hbel).size)⟩
      · go_wp2
        go_ret2
        exact ⟨i, _, rfl, hjn, unhide hH, unhide hbel⟩

set_option maxRecDepth 10000 in
set_option maxHeartbeats 1000000 in
theorem ownerIn_some (g cap n : Nat) (L : List D) (key : ByteArray) (w : World) (hr : RowAt w g 118 (n * 2) (icell L)) (hn : L.length = n) (h0 : 0 < n) (h1 : n ≤ 1000) (hs : Sorted L) (hk : key.size ≤ maxLen) :
    Calls Tryz.prog 52 #[.slice (some ⟨g, 0, none⟩) n cap, .string key] w fun e w' => e = .returned (.string (ownerN L (Hash.hashN key.data.toList))) ∧ Below w.heap.size w w' := by
  have hh := fun w => Hash.hash_any key w hk
  have hsr := fun h => search_some g cap n L h w hr hn h1 hs
  have hend := fun h i => @halved_end L h i
  generalize Hash.hashN key.data.toList = h at hh ⊢
  have hsr := hsr h
  have hend := hend h
  generalize ownerN L h = ans at hend ⊢
  rw [hn] at hend
  have HEND := hide hend
  have HH := hide hh
  have HSR := hide hsr
  have HR := hide hr
  have hglt := hr.lt
  clear hh hsr hr hs hend hn
  go_enter Tryz.func52, Tryz.ntmps52
  go_wp2_with fail
  refine (unhide HH _).mono ?_
  rintro e w1 ⟨rfl, rfl⟩
  go_wp2_with fail
  refine (unhide HSR).mono ?_
  rintro e w2 ⟨i, fb, rfl, hin, hH, hb2⟩
  have HE := hide (unhide HEND i hH h0)
  have HB := hide hb2
  have hlt2 : g < w2.heap.size := Nat.lt_of_lt_of_le hglt hb2.size
  have hmod : i % n = if i < n then i else 0 := by
    by_cases hi : i < n
    · rw [if_pos hi, Nat.mod_eq_of_lt hi]
    · obtain rfl : i = n := by omega
      rw [if_neg hi, Nat.mod_self]
  have hml : i % n < n := Nat.mod_lt _ h0
  obtain ⟨c0, c1⟩ := at_pt ((unhide HR).below hb2 hglt) hml
  have HE2 := unhide HE
  rw [← hmod] at HE2
  rw [← HE2] at c1
  have hm0 : (0 : Int) ≤ (i : Int) % (n : Int) := Int.emod_nonneg _ (by omega)
  have hm1 : (i : Int) % (n : Int) < (n : Int) := Int.emod_lt_of_pos _ (by omega)
  have hn0 : ¬ (n : Int) = 0 := by omega
  clear hb2 hH HE HE2 hmod c0
  go_wp2
  go_ret
  exact ⟨rfl, unhide HB⟩
end Ring
end Go.Proofs.YtghckjmpcokhcaaGreatDoor
