/-
  The model's BestLane: for every slice of lanes that a call has laid, it answers by the plain function bestR.
-/
import Derived.Test.YtncdoghnfgnafaaLnQ
import Derived.Test.YtncdoghnfgnafaaLaneS
import Derived.Test.YtncdoghnfgnafaaGoodKeyS
import Derived.Deep.RegionWith
import Derived.Deep.DeepCutAuto
namespace Go.Proofs.Ytncdoghnfgnafaa
namespace Lanes
open Go.RowKit Base GoodKey
set_option linter.unusedVariables false

set_option maxRecDepth 10000 in
set_option maxHeartbeats 2000000 in
theorem best_spec (b n : Nat) (L : List Ln) (key : ByteArray) (w : World) (hR : RAt w b L) (hn : L.length = n) (hl : n ≤ 1048576) (hs : ∀ x ∈ L, x.ws.length ≤ 1048576) (hk : key.size ≤ maxLen) :
    Calls Try.prog 28 #[.slice (some ⟨b, 0, none⟩) n n, .string key] w fun e w' => e = .returned (.tuple #[.int .i64 (bestR (L.map core) key).1, .bool (bestR (L.map core) key).2]) ∧ Below w.heap.size w w' := by
  have HL := hide hR
  have HN := hide hn
  have HSS := hide hs
  have hgk := fun w => GoodKey.spec_any key w hk
  have hhs := fun w => Hash.l3Hash_any key w hk
  obtain ⟨m, hm⟩ := Int.eq_ofNat_of_zero_le (Hash.hashN_bd key.data.toList).1
  have hml := (Hash.hashN_bd key.data.toList).2
  rw [hm] at hhs hml
  have HB := hide (bestR_of L key n m hn hm)
  have hb0 : b < w.heap.size := hR.1
  generalize bestR (L.map core) key = T at HB ⊢
  clear hR hn hs
  have HGK := hide hgk
  have HHS := hide hhs
  clear hgk hhs
  by_cases g1 : inB (n : Int) 1 20 = true
  case neg =>
    have HT : Hid (T = (0, false)) := (unhide HB).1 (by simp [g1])
    obtain rfl := unhide HT
    have g1' : inB (n : Int) 1 20 = false := by simpa using g1
    have HI : Hid (∀ w, Calls Try.prog 33 #[.int .i64 (n : Int), .int .i64 1, .int .i64 20] w fun e w' => e = .returned (.bool false) ∧ w' = w) := fun w => by rw [← g1']; exact l1In_any _ _ _ _
    clear g1 g1'
    go_enter Try.func28, Try.ntmps28
    go_wp2_with fail
    refine (unhide HI _).mono ?_
    rintro e w1 ⟨rfl, h1⟩
    rw [h1]
    clear h1 w1
    go_wp2
    go_ret2
    exact ⟨rfl, Below.refl _ _⟩
  have HI : Hid (∀ w, Calls Try.prog 33 #[.int .i64 (n : Int), .int .i64 1, .int .i64 20] w fun e w' => e = .returned (.bool true) ∧ w' = w) := fun w => by rw [← g1]; exact l1In_any _ _ _ _
  have hn1 : 1 ≤ n ∧ n ≤ 20 := by simp [inB] at g1; omega
  cases g2 : gk key.data.toList
  · have HT : Hid (T = (0, false)) := (unhide HB).1 (by simp [g2])
    obtain rfl := unhide HT
    rw [g2] at HGK
    clear g1 g2
    go_enter Try.func28, Try.ntmps28
    go_wp2_with fail
    refine (unhide HI _).mono ?_
    rintro e w1 ⟨rfl, h1⟩
    rw [h1]
    clear h1 w1
    go_wp2_with fail
    refine (unhide HGK _).mono ?_
    rintro e w1 ⟨rfl, h1⟩
    rw [h1]
    clear h1 w1
    go_wp2
    go_ret2
    exact ⟨rfl, Below.refl _ _⟩
  rw [g2] at HGK
  have HB1 : Hid (∀ j, j < n → glB (L.getD j zeroL).ep (L.getD j zeroL).fa (L.getD j zeroL).ws = false → T = (0, false)) := fun j hj h => (unhide HB).1 (by rw [good_bad L j (by have := unhide HN; omega) h]; simp)
  have HB2 : Hid ((∀ j, j < n → glB (L.getD j zeroL).ep (L.getD j zeroL).fa (L.getD j zeroL).ws = true) → T = ((bestN (L.map core) (m % n) : Int), true)) := fun h => (unhide HB).2 (by rw [g1, g2, good_all L (by rw [unhide HN]; exact h)]; rfl)
  have HB3 := hide (best_found L n (m % n) (unhide HN))
  clear g1 g2 HB
  go_enter Try.func28, Try.ntmps28
  go_wp2_with fail
  refine (unhide HI _).mono ?_
  rintro e w1 ⟨rfl, h1⟩
  rw [h1]
  clear h1 w1
  go_wp2_with fail
  refine (unhide HGK _).mono ?_
  rintro e w1 ⟨rfl, h1⟩
  rw [h1]
  clear h1 w1
  go_wp2_with fail
  go_loopw [22] (fun i wr => ∃ k : Nat, k ≤ n ∧ i = .int .i64 k ∧ Hid (∀ j, j < k → glB (L.getD j zeroL).ep (L.getD j zeroL).fa (L.getD j zeroL).ws = true) ∧ Hid (Below w.heap.size w wr)) (fun i _ => n - (intOf i).toNat)
  case atStart => exact ⟨0, Nat.zero_le _, rfl, hide (fun j hj => absurd hj (by omega)), hide (Below.refl _ _)⟩
  case round =>
    obtain ⟨k, hk, rfl, hgood, hbel⟩ := hrel
    by_cases hlt : k < n
    · obtain ⟨⟨c0, c1, c2⟩, hst⟩ := ((unhide HL).below (unhide hbel) (Nat.le_refl _)).2 k (by have := unhide HN; omega)
      have hsk : (L.getD k zeroL).ws.length ≤ 1048576 := unhide HSS _ (by have := unhide HN; rw [List.getD_eq_getElem?_getD, List.getElem?_eq_getElem (by omega)]; simp)
      have hbad := hide (unhide HB1 k hlt)
      have hbr : b < wr.heap.size := Nat.lt_of_lt_of_le hb0 (unhide hbel).size
      have hnx : Hid (glB (L.getD k zeroL).ep (L.getD k zeroL).fa (L.getD k zeroL).ws = true → ∀ j, j < k + 1 → glB (L.getD j zeroL).ep (L.getD j zeroL).fa (L.getD j zeroL).ws = true) := fun h j hj => by
        by_cases e : j = k
        · rw [e]; exact h
        · exact unhide hgood j (by omega)
      generalize L.getD k zeroL = x at c0 c1 c2 hst hsk hbad hnx
      rw [Nat.zero_add] at c0 c1 c2
      obtain ⟨g, ha, hg, hc, hcap⟩ := hst
      have HG := hide (fun o => spec_some x.ep x.fa g 0 x.cap x.ws (wr.alloc o) (by simp; omega) (fun j hj => (hc j hj).below (bel1 wr o) hg) (by unfold maxLen; omega) (by omega))
      rw [ha] at c2
      clear hc hcap
      cases hgl : glB x.ep x.fa x.ws
      · rw [hgl] at HG hbad
        have HT : Hid (T = (0, false)) := unhide hbad rfl
        obtain rfl := unhide HT
        clear hgl hbad hnx
        go_wp2_with fail
        refine (unhide HG _).mono ?_
        rintro e w2 ⟨rfl, hb2⟩
        have hB := hide ((unhide hbel).trans ((bel1 wr _).trans (hb2.mono (by simp)) |>.mono (unhide hbel).size))
        clear hb2
        go_wp2
        go_ret2
        exact ⟨rfl, unhide hB⟩
      · rw [hgl] at HG hnx
        have H := hide (unhide hnx rfl)
        clear hgl hbad hnx
        go_wp2_with fail
        refine (unhide HG _).mono ?_
        rintro e w2 ⟨rfl, hb2⟩
        have hB := hide ((unhide hbel).trans ((bel1 wr _).trans (hb2.mono (by simp)) |>.mono (unhide hbel).size))
        clear hb2
        go_wp2
        go_roundw
        case rel => exact ⟨k + 1, by omega, by go_num, H, hB⟩
        case measure => simp [intOf]; omega
    · obtain rfl : k = n := by omega
      have HT := hide (unhide HB2 (unhide hgood))
      have hk0 : ¬ (k : Int) = 0 := by omega
      have hn32 : IntKind.u32.wrap (k : Int) = (k : Int) := by rw [IntKind.wrap_u32]; omega
      clear hgood
      go_wp2_with fail
      refine (unhide HHS _).mono ?_
      rintro e w3 ⟨rfl, h3⟩
      rw [h3]
      clear h3 w3
      go_upto_region 10 with fail
      have hf : m % k < k := Nat.mod_lt _ (by omega)
      have hE : wrap64 ((m : Int) % (k : Int)) = ((m % k : Nat) : Int) := by
        rw [← Int.natCast_emod]
        unfold wrap64
        omega
      rw [hE]
      clear hE hm hml
      generalize m % k = f at HT HB3 hf ⊢
      have HLr := hide ((unhide HL).below (unhide hbel) (Nat.le_refl _))
      go_wp2_with fail
      go_loop [39] (fun i => ∃ j : Nat, j ≤ k ∧ i = .int .i64 j ∧ Hid (∀ t, t < j → 3 ≤ (L.getD (pos k f t) zeroL).fa)) (fun i => k - (intOf i).toNat)
      case atStart => exact ⟨0, Nat.zero_le _, rfl, hide (fun t ht => absurd ht (by omega))⟩
      case round =>
        obtain ⟨j, hj, rfl, hno⟩ := hrel
        by_cases hlt : j < k
        · have hpl : pos k f j < k := Nat.mod_lt _ (by omega)
          obtain ⟨⟨-, c1, -⟩, -⟩ := (unhide HLr).2 (pos k f j) (by have := unhide HN; omega)
          have hr : ((f : Int) + (j : Int)) % (k : Int) = ((pos k f j : Nat) : Int) := by unfold pos; rw [Int.natCast_emod, Int.natCast_add]
          have hyes := hide ((unhide HB3).1 j hlt (unhide hno))
          have hnx : Hid (3 ≤ (L.getD (pos k f j) zeroL).fa → ∀ t, t < j + 1 → 3 ≤ (L.getD (pos k f t) zeroL).fa) := fun h t ht => by
            by_cases e : t = j
            · rw [e]; exact h
            · exact unhide hno t (by omega)
          generalize pos k f j = p at hpl c1 hr hyes hnx
          generalize (L.getD p zeroL).fa = fa at c1 hyes hnx
          rw [Nat.zero_add] at c1
          by_cases hfa : fa < 3
          · have HR : Hid (T = ((p : Int), true)) := (unhide HT).trans (by rw [unhide hyes hfa])
            obtain rfl := unhide HR
            clear hyes hnx
            go_wp2
            go_ret2
            exact ⟨rfl, unhide hbel⟩
          · have H := hide (unhide hnx (by omega))
            clear hyes hnx
            go_wp2
            go_round
            case rel => exact ⟨j + 1, by omega, by go_num, H⟩
            case measure => simp [intOf]; omega
        · obtain rfl : j = k := by omega
          have HR : Hid (T = ((f : Int), true)) := (unhide HT).trans (by rw [(unhide HB3).2 (unhide hno)])
          obtain rfl := unhide HR
          go_wp2
          go_ret2
          exact ⟨rfl, unhide hbel⟩
end Lanes
end Go.Proofs.Ytncdoghnfgnafaa
