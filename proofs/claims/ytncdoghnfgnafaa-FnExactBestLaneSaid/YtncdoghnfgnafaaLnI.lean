/-
  The program's goodLanes and BestLane: for every slice of lanes that a call has laid, it answers by the plain function bestR.
-/
import Derived.Test.YtncdoghnfgnafaaLnF
import Derived.Test.YtncdoghnfgnafaaLaneI
import Derived.Test.YtncdoghnfgnafaaGoodKeyC
import Derived.Test.YtncdoghnfgnafaaHashI
import Derived.Deep.RegionWith
import Derived.Deep.DeepCutAuto
namespace Go.Proofs.Ytncdoghnfgnafaa
namespace Lanes
open Go.RowKit Base GoodKey
set_option linter.unusedVariables false

set_option maxRecDepth 10000 in
set_option maxHeartbeats 2000000 in
theorem goods_any (b n : Nat) (L : List Ln) (w : World) (hR : RAt w b L) (hn : L.length = n) (hl : n ≤ 1048576) (hs : ∀ x ∈ L, x.ws.length ≤ 1048576) :
    Calls Try.prog 45 #[.slice (some ⟨b, 0, none⟩) n n] w fun e w' => e = .returned (.bool (inB (n : Int) 1 20 && goodB (L.map core))) ∧ Below w.heap.size w w' := by
  have HL := hide hR
  have HN := hide hn
  have HSS := hide hs
  have hb0 : b < w.heap.size := hR.1
  have HB1 : Hid (∀ j, j < n → glB (L.getD j zeroL).ep (L.getD j zeroL).fa (L.getD j zeroL).ws = false → (inB (n : Int) 1 20 && goodB (L.map core)) = false) := fun j hj h => by rw [good_bad L j (by omega) h]; simp
  have HB2 : Hid (1 ≤ n ∧ n ≤ 20 → (∀ j, j < n → glB (L.getD j zeroL).ep (L.getD j zeroL).fa (L.getD j zeroL).ws = true) → (inB (n : Int) 1 20 && goodB (L.map core)) = true) := fun h1 h => by
    rw [good_all L (by rw [hn]; exact h)]
    simp [inB]
    omega
  have HB0 : Hid (¬ (1 ≤ n ∧ n ≤ 20) → (inB (n : Int) 1 20 && goodB (L.map core)) = false) := fun h => by
    have : inB (n : Int) 1 20 = false := by unfold inB; simp; omega
    rw [this]; rfl
  generalize (inB (n : Int) 1 20 && goodB (L.map core)) = T at HB0 HB1 HB2 ⊢
  clear hR hn hs
  by_cases g1 : (n : Int) < 1
  · have HT : Hid (T = false) := unhide HB0 (by omega)
    obtain rfl := unhide HT
    go_enter Try.func45, Try.ntmps45
    go_wp2
    go_ret
    exact ⟨rfl, Below.refl _ _⟩
  by_cases g2 : (n : Int) > 20
  · have HT : Hid (T = false) := unhide HB0 (by omega)
    obtain rfl := unhide HT
    go_enter Try.func45, Try.ntmps45
    go_wp2
    go_ret
    exact ⟨rfl, Below.refl _ _⟩
  clear HB0
  go_enter Try.func45, Try.ntmps45
  go_wp2_with fail
  go_loopw [15] (fun i wr => ∃ k : Nat, k ≤ n ∧ i = .int .i64 k ∧ Hid (∀ j, j < k → glB (L.getD j zeroL).ep (L.getD j zeroL).fa (L.getD j zeroL).ws = true) ∧ Hid (Below w.heap.size w wr)) (fun i _ => n - (intOf i).toNat)
  case atStart => exact ⟨0, Nat.zero_le _, rfl, hide (fun j hj => absurd hj (by omega)), hide (Below.refl _ _)⟩
  case round =>
    obtain ⟨k, hk, rfl, hgood, hbel⟩ := hrel
    by_cases hlt : k < n
    · obtain ⟨⟨c0, c1, c2⟩, hst⟩ := ((unhide HL).below (unhide hbel) (Nat.le_refl _)).2 k (by have := unhide HN; omega)
      have hsk : (L.getD k zeroL).ws.length ≤ 1048576 := unhide HSS _ (by have := unhide HN; rw [List.getD_eq_getElem?_getD, List.getElem?_eq_getElem (by omega)]; simp)
      have hbad := hide (unhide HB1 k hlt)
      have hbr : b < wr.heap.size := Nat.lt_of_lt_of_le hb0 (unhide hbel).size
      have hnx : Hid (glB (L.getD k zeroL).ep (L.getD k zeroL).fa (L.getD k zeroL).ws = true → ∀ j, j < k + 1 → glB (L.getD j zeroL).ep (L.getD j zeroL).fa (L.getD j zeroL).ws = true) := fun h j hj => by
        by_cases e : j = k
        · rw [e]; exact h
        · exact unhide hgood j (by omega)
      generalize L.getD k zeroL = x at c0 c1 c2 hst hsk hbad hnx
      rw [Nat.zero_add] at c0 c1 c2
      obtain ⟨g, ha, hg, hc, hcap⟩ := hst
      have HG := hide (fun o => impl_some x.ep x.fa g 0 x.cap x.ws (wr.alloc o) (by simp; omega) (fun j hj => (hc j hj).below (bel1 wr o) hg) hsk (by omega))
      rw [ha] at c2
      clear hc hcap
      cases hgl : glB x.ep x.fa x.ws
      · rw [hgl] at HG hbad
        have HT : Hid (T = false) := unhide hbad rfl
        obtain rfl := unhide HT
        clear hgl hbad hnx
        go_wp2_with fail
        refine (unhide HG _).mono ?_
        rintro e w2 ⟨rfl, hb2⟩
        have hB := hide ((unhide hbel).trans ((bel1 wr _).trans (hb2.mono (by simp)) |>.mono (unhide hbel).size))
        clear hb2
        go_wp2
        go_ret
        exact ⟨rfl, unhide hB⟩
      · rw [hgl] at HG hnx
        have H := hide (unhide hnx rfl)
        clear hgl hbad hnx
        go_wp2_with fail
        refine (unhide HG _).mono ?_
        rintro e w2 ⟨rfl, hb2⟩
        have hB := hide ((unhide hbel).trans ((bel1 wr _).trans (hb2.mono (by simp)) |>.mono (unhide hbel).size))
        clear hb2
        go_wp2
        go_roundw
        case rel => exact ⟨k + 1, by omega, by go_num, H, hB⟩
        case measure => simp [intOf]; omega
    · obtain rfl : k = n := by omega
      have HT : Hid (T = true) := unhide HB2 (by omega) (unhide hgood)
      obtain rfl := unhide HT
      go_wp2
      go_ret
      exact ⟨rfl, unhide hbel⟩

set_option maxRecDepth 10000 in
set_option maxHeartbeats 2000000 in
theorem best_impl (b n : Nat) (L : List Ln) (key : ByteArray) (w : World) (hR : RAt w b L) (hn : L.length = n) (hl : n ≤ 1048576) (hs : ∀ x ∈ L, x.ws.length ≤ 1048576) (hk : key.size ≤ maxLen) :
    Calls Try.prog 30 #[.slice (some ⟨b, 0, none⟩) n n, .string key] w fun e w' => e = .returned (.tuple #[.int .i64 (bestR (L.map core) key).1, .bool (bestR (L.map core) key).2]) ∧ Below w.heap.size w w' := by
  have hgo := goods_any b n L w hR hn hl hs
  have hgk := fun w => GoodKey.impl_any key w hk
  have hhs := fun w => Hash.hash_any key w hk
  obtain ⟨m, hm⟩ := Int.eq_ofNat_of_zero_le (Hash.hashN_bd key.data.toList).1
  have hml := (Hash.hashN_bd key.data.toList).2
  rw [hm] at hhs hml
  have HB := hide (bestR_of L key n m hn hm)
  have HFS := hide (fun w' (hb' : Below w.heap.size w w') h1 hf => first_any b n (m % n) L w' (hR.below hb' (Nat.le_refl _)) hn h1 hf)
  generalize bestR (L.map core) key = T at HB ⊢
  clear hR hs hm
  cases g1 : (inB (n : Int) 1 20 && goodB (L.map core))
  · have HT : Hid (T = (0, false)) := (unhide HB).1 (by revert g1; cases inB (n : Int) 1 20 <;> cases goodB (L.map core) <;> cases gk key.data.toList <;> simp)
    obtain rfl := unhide HT
    rw [g1] at hgo
    have HGO := hide hgo
    clear g1 hgo HB HFS hgk hhs
    go_enter Try.func30, Try.ntmps30
    go_wp2_with fail
    refine (unhide HGO).mono ?_
    rintro e w1 ⟨rfl, hb1⟩
    have B1 := hide hb1
    clear hb1
    go_wp2
    go_ret2
    exact ⟨rfl, unhide B1⟩
  rw [g1] at hgo
  have HGO := hide hgo
  have HGK := hide hgk
  have HHS := hide hhs
  clear hgo hgk hhs
  cases g2 : gk key.data.toList
  · have HT : Hid (T = (0, false)) := (unhide HB).1 (by rw [g2]; cases inB (n : Int) 1 20 <;> cases goodB (L.map core) <;> rfl)
    obtain rfl := unhide HT
    rw [g2] at HGK
    clear g1 g2 HB HFS HHS
    go_enter Try.func30, Try.ntmps30
    go_wp2_with fail
    refine (unhide HGO).mono ?_
    rintro e w1 ⟨rfl, hb1⟩
    have B1 := hide hb1
    clear hb1
    go_wp2_with fail
    refine (unhide HGK _).mono ?_
    rintro e w2 ⟨rfl, h2⟩
    rw [h2]
    clear h2 w2
    go_wp2
    go_ret2
    exact ⟨rfl, unhide B1⟩
  rw [g2] at HGK
  have HT : Hid (T = ((bestN (L.map core) (m % n) : Int), true)) := (unhide HB).2 (by rw [g2]; revert g1; cases inB (n : Int) 1 20 <;> cases goodB (L.map core) <;> simp)
  have hn1 : 1 ≤ n ∧ n ≤ 20 := by
    have : inB (n : Int) 1 20 = true := by revert g1; cases inB (n : Int) 1 20 <;> simp
    unfold inB at this
    simp at this
    omega
  obtain rfl := unhide HT
  have hf : m % n < n := Nat.mod_lt _ (by omega)
  have hE : wrap64 ((m : Int) % (n : Int)) = ((m % n : Nat) : Int) := by
    rw [← Int.natCast_emod]
    unfold wrap64
    omega
  have hn0 : ¬ (n : Int) = 0 := by omega
  have hn32 : IntKind.u32.wrap (n : Int) = (n : Int) := by rw [IntKind.wrap_u32]; omega
  clear g1 g2 HB HT
  generalize bestN (L.map core) (m % n) = ans at HFS ⊢
  go_enter Try.func30, Try.ntmps30
  go_wp2_with fail
  refine (unhide HGO).mono ?_
  rintro e w1 ⟨rfl, hb1⟩
  have B1 := hide hb1
  clear hb1
  go_wp2_with fail
  refine (unhide HGK _).mono ?_
  rintro e w2 ⟨rfl, h2⟩
  rw [h2]
  clear h2 w2
  go_wp2_with fail
  refine (unhide HHS _).mono ?_
  rintro e w2 ⟨rfl, h2⟩
  rw [h2]
  clear h2 w2
  go_wp2_with fail
  refine (unhide HFS _ (unhide B1) hn1 hf).mono ?_
  rintro e w3 ⟨rfl, hb3⟩
  have B3 := hide ((unhide B1).trans (hb3.mono (unhide B1).size))
  clear hb3
  go_wp2
  go_ret2
  exact ⟨rfl, unhide B3⟩
end Lanes
end Go.Proofs.Ytncdoghnfgnafaa
