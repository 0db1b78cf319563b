/-
  The model's MovedKeys: of good nodes and keys those keys that have another owner, in a row of its own; nothing of others.
-/
import Derived.Test.YtcbmdloapmmghaaDoorMovedP
import Derived.Test.YtcbmdloapmmghaaDoorRingX
import Derived.Test.YtcbmdloapmmghaaDoorStringW
import Derived.Test.YtcbmdloapmmghaaDoorKeysS
import Derived.Maps.AppendAt
namespace Go.Proofs.YtcbmdloapmmghaaDoor
namespace Ring
open Go.RowKit Base Points Marks OwnR KeysS
set_option linter.unusedVariables false

theorem mmoved_info : ∃ i, Tryd.prog.info? 9 = some i ∧ i.zero = some (.string ByteArray.empty) ∧ i.size = 1 ∧ i.bytes = 16 := by
  have h : (Tryd.prog.info? 9).map (fun i => (i.zero, i.size, i.bytes)) = some (some (.string ByteArray.empty), 1, 16) := by kernel_rfl
  obtain ⟨i, hi, hz⟩ := Option.map_eq_some_iff.1 h
  simp only [Prod.mk.injEq] at hz
  exact ⟨i, hi, hz.1, hz.2.1, hz.2.2⟩

set_option maxRecDepth 10000 in
set_option maxHeartbeats 4000000 in
theorem mmoved_any (ba oa ca : Nat) (la : List Nodes.D) (bb ob cb : Nat) (lb : List Nodes.D) (kb ko kc : Nat) (ks : List ByteArray) (w : World)
    (hba : ba < w.heap.size) (hca : ∀ i, i < la.length → Nodes.At w ba (oa + i * 2) (la.getD i Nodes.zero)) (hla : la.length ≤ maxLen) (hsa : ∀ x ∈ la, Nodes.Fits x)
    (hbb : bb < w.heap.size) (hcb : ∀ i, i < lb.length → Nodes.At w bb (ob + i * 2) (lb.getD i Nodes.zero)) (hlb : lb.length ≤ maxLen) (hsb : ∀ x ∈ lb, Nodes.Fits x)
    (hkb : kb < w.heap.size) (hkc : ∀ i, i < ks.length → w.cell? ⟨kb, ko + i, none⟩ = some (.string (ks.getD i ByteArray.empty))) (hkl : ks.length ≤ maxLen) (hks : ∀ s ∈ ks, s.size ≤ maxLen) :
    Calls Tryd.prog 19 #[.slice (some ⟨ba, oa, none⟩) la.length ca, .slice (some ⟨bb, ob, none⟩) lb.length cb, .slice (some ⟨kb, ko, none⟩) ks.length kc] w fun e w' =>
      ∃ a c r, e = .returned (.tuple #[.slice a (movL la lb ks).length c, .bool (movOk la lb ks)]) ∧ StringsM.Ours w' a (movL la lb ks).length (StringsW.scell (movL la lb ks)) r ∧ (∀ g, r = some g → w.heap.size ≤ g) ∧ Below w.heap.size w w' := by
  have HGA := hide (NodesM.nodes_some ba oa ca la w hba hca hla hsa)
  have HGB := hide (fun w1 hb1 => NodesM.nodes_some bb ob cb lb w1 (Nat.lt_of_lt_of_le hbb (Below.size hb1)) (fun i hi => (hcb i hi).below hb1 hbb) hlb hsb)
  have HKY : Hid (∀ w1, Below w.heap.size w w1 → Calls Tryd.prog 44 #[.slice (some ⟨kb, ko, none⟩) ks.length kc] w1 fun e w' => e = .returned (.bool (kB ks)) ∧ Below w1.heap.size w1 w') := fun w1 hb1 => (KeysS.mkeys_any kb ko kc ks w1 (Nat.lt_of_lt_of_le hkb (Below.size hb1)) (fun i hi => ((hb1.cell (p := ⟨kb, ko + i, none⟩) hkb).trans (hkc i hi))) hkl hks).mono fun e w' h => ⟨h.1, by rw [h.2]; exact Below.refl _ _⟩
  have HOA := fun (hg : NodesM.gnB la = true) (key : ByteArray) w1 hb1 hk => mowner_some ba oa ca la key w1 (Nat.lt_of_lt_of_le hba (Below.size hb1)) (fun i hi => (hca i hi).below hb1 hba) hg hk
  have HOB := fun (hg : NodesM.gnB lb = true) (key : ByteArray) w1 hb1 hk => mowner_some bb ob cb lb key w1 (Nat.lt_of_lt_of_le hbb (Below.size hb1)) (fun i hi => (hcb i hi).below hb1 hbb) hg hk
  have HKC := hide hkc
  have HRL : Hid (movL la lb ks = if movOk la lb ks then movK la lb ks else []) := rfl
  have HOK : Hid (movOk la lb ks = (NodesM.gnB la && NodesM.gnB lb && kB ks)) := rfl
  clear hca hsa hcb hsb hkc hks
  unfold maxLen at hla hlb hkl
  generalize movL la lb ks = R at HRL ⊢
  generalize movOk la lb ks = ok at HRL HOK ⊢
  cases ea : NodesM.gnB la
  · rw [ea] at HGA HOK
    have h0 : ok = false := unhide HOK
    subst h0
    obtain rfl : R = [] := unhide HRL
    clear ea HOA HOB HGB HKY
    go_enter Tryd.func19, Tryd.ntmps19
    go_wp2_with fail
    refine (unhide HGA).mono ?_
    rintro e w1 ⟨rfl, hb1⟩
    have B1 := hide hb1
    clear hb1
    go_wp2
    go_ret2
    exact ⟨_, _, none, rfl, .inl ⟨rfl, rfl⟩, fun g h => by simp at h, unhide B1⟩
  rw [ea] at HGA HOK
  have HOA' := hide (HOA ea)
  cases eb : NodesM.gnB lb
  · rw [eb] at HGB HOK
    have h0 : ok = false := unhide HOK
    subst h0
    obtain rfl : R = [] := unhide HRL
    clear ea eb HOA HOB HKY
    go_enter Tryd.func19, Tryd.ntmps19
    go_wp2_with fail
    refine (unhide HGA).mono ?_
    rintro e w1 ⟨rfl, hb1⟩
    have B1 := hide hb1
    clear hb1
    go_wp2_with fail
    refine (unhide HGB _ (unhide B1)).mono ?_
    rintro e w2 ⟨rfl, hb2⟩
    have B2 := hide ((unhide B1).trans (hb2.mono (unhide B1).size))
    clear hb2
    go_wp2
    go_ret2
    exact ⟨_, _, none, rfl, .inl ⟨rfl, rfl⟩, fun g h => by simp at h, unhide B2⟩
  rw [eb] at HGB HOK
  have HOB' := hide (HOB eb)
  cases ek : kB ks
  · rw [ek] at HOK
    rw [ek] at HKY
    have h0 : ok = false := unhide HOK
    subst h0
    obtain rfl : R = [] := unhide HRL
    clear ea eb ek HOA HOB
    go_enter Tryd.func19, Tryd.ntmps19
    go_wp2_with fail
    refine (unhide HGA).mono ?_
    rintro e w1 ⟨rfl, hb1⟩
    have B1 := hide hb1
    clear hb1
    go_wp2_with fail
    refine (unhide HGB _ (unhide B1)).mono ?_
    rintro e w2 ⟨rfl, hb2⟩
    have B2 := hide ((unhide B1).trans (hb2.mono (unhide B1).size))
    clear hb2
    go_wp2_with fail
    refine (unhide HKY _ (unhide B2)).mono ?_
    rintro e w3 ⟨rfl, hb3⟩
    have B3 := hide ((unhide B2).trans (hb3.mono (unhide B2).size))
    clear hb3
    go_wp2
    go_ret2
    exact ⟨_, _, none, rfl, .inl ⟨rfl, rfl⟩, fun g h => by simp at h, unhide B3⟩
  rw [ek] at HOK
  rw [ek] at HKY
  have h0 : ok = true := unhide HOK
  subst h0
  obtain rfl : R = movK la lb ks := unhide HRL
  have hk60 := (kB_len ek).1
  have HKS := hide (fun k hk => key_size ek (k := k) hk)
  clear ea eb ek HOA HOB HRL HOK
  obtain ⟨i0, hi, hz0, hz1, hz2⟩ := mmoved_info
  have HI := hide hi
  have HZ0 := hide hz0
  have HZ1 := hide hz1
  have HZ2 := hide hz2
  clear hi hz0 hz1 hz2
  go_enter Tryd.func19, Tryd.ntmps19
  go_wp2_with fail
  refine (unhide HGA).mono ?_
  rintro e w1 ⟨rfl, hb1⟩
  have B1 := hide hb1
  clear hb1
  go_wp2_with fail
  refine (unhide HGB _ (unhide B1)).mono ?_
  rintro e w2 ⟨rfl, hb2⟩
  have B2 := hide ((unhide B1).trans (hb2.mono (unhide B1).size))
  clear hb2
  go_wp2_with fail
  refine (unhide HKY _ (unhide B2)).mono ?_
  rintro e w3 ⟨rfl, hb3⟩
  have B3 := hide ((unhide B2).trans (hb3.mono (unhide B2).size))
  clear hb3
  go_wp2
  go_loopw [8, 26] (fun v iv wr => ∃ k : Nat, k ≤ ks.length ∧ iv = .int .i64 (k : Int) ∧ Hid (wr.ownsRow w3.heap.size 9 1 v (movK la lb (ks.take k)).length (StringsW.flat (movK la lb (ks.take k)))) ∧ Hid (Below w3.heap.size w3 wr)) (fun _ iv _ => ks.length - (intOf iv).toNat)
  case atStart => exact ⟨0, Nat.zero_le _, rfl, hide (World.ownsRow_nil _ _ _ _), hide (Below.refl _ _)⟩
  case round =>
    obtain ⟨k, hk, rfl, hown, hbel⟩ := hrel
    have hW := hide ((unhide B3).trans ((unhide hbel).mono (unhide B3).size))
    by_cases hlt : k < ks.length
    · have hck := ((unhide hW).cell (p := ⟨kb, ko + k, none⟩) hkb).trans (unhide HKC k hlt)
      have hss := unhide HKS k hlt
      have hst := hide (movK_step la lb ks k hlt)
      have hml := movK_len la lb ks k
      generalize ks.getD k ByteArray.empty = s at hck hss hst
      have hsm : s.size ≤ maxLen := by unfold maxLen; omega
      generalize movK la lb (ks.take k) = K at hown hst hml
      have hmb : Hid (movedB la lb s = !((ownK la s).toList == (ownK lb s).toList)) := rfl
      have hcA := fun w1 hb1 => unhide HOA' s w1 hb1 hsm
      have hcB := fun w1 hb1 => unhide HOB' s w1 hb1 hsm
      have eA : ownerN (ring (points la)) (Hash.hashN s.data.toList) = ownK la s := rfl
      have eB : ownerN (ring (points lb)) (Hash.hashN s.data.toList) = ownK lb s := rfl
      rw [eA] at hcA
      rw [eB] at hcB
      clear eA eB
      generalize ownK la s = xa at hcA hmb
      generalize ownK lb s = xb at hcB hmb
      have HCA := hide hcA
      have HCB := hide hcB
      clear hcA hcB
      cases hx : (xa.toList == xb.toList)
      · rw [hx] at hmb
        have HST : Hid (movK la lb (ks.take (k + 1)) = K ++ [s]) := by show movK la lb (ks.take (k + 1)) = _; rw [unhide hst, unhide hmb]; rfl
        clear hmb hst
        go_wp2_with fail
        refine (unhide HCA _ (unhide hW)).mono ?_
        rintro e wa ⟨rfl, hb1⟩
        have C1 := hide ((unhide hbel).trans (hb1.mono (unhide hbel).size))
        have O1 := hide (own_below (unhide hown) hb1 (Nat.le_refl _))
        clear hb1
        go_wp2_with fail
        refine (unhide HCB _ ((unhide B3).trans ((unhide C1).mono (unhide B3).size))).mono ?_
        rintro e wb ⟨rfl, hb2⟩
        have C2 := hide ((unhide C1).trans (hb2.mono (unhide C1).size))
        have O2 := hide (own_below (unhide O1) hb2 (Nat.le_refl _))
        have hz2 := (unhide C2).size
        clear hb2
        go_wp2_with (at_builtin; go_loud (refine wpList_append_own _ rfl _ _ 37 rfl w3.heap.size 9 i0 _ 1 16 Tryd.underlying37 (unhide HI) (unhide HZ0) (unhide HZ1) (unhide HZ2) rfl (by decide) _ _ _ rfl ((unhide O2).alloc _) ⟨wb.heap.size, 0, none⟩ 1 1 [.string s] rfl rfl (cell_one_new _ _ _) (StringsW.news_one s) ?c3 ?c4 ?c5 ?_))
        case c3 => unfold maxLen; omega
        case c4 => omega
        case c5 => simp; omega
        intro v' we hown' hgrow _
        have O4 : Hid (we.ownsRow w3.heap.size 9 1 v' (movK la lb (ks.take (k + 1))).length (StringsW.flat (movK la lb (ks.take (k + 1))))) := StringsW.own_snoc hown' (unhide HST)
        have C4 := hide (((unhide C2).alloc hz2 _).grown hgrow (by simp; omega) (own_block (unhide O2)))
        clear hown' hgrow
        go_wp2
        go_roundw
        case rel => exact ⟨k + 1, by omega, by go_num, O4, C4⟩
        case measure => simp [intOf]; omega
      · rw [hx] at hmb
        have HST : Hid (movK la lb (ks.take (k + 1)) = K) := by show movK la lb (ks.take (k + 1)) = _; rw [unhide hst, unhide hmb]; simp
        clear hmb hst
        go_wp2_with fail
        refine (unhide HCA _ (unhide hW)).mono ?_
        rintro e wa ⟨rfl, hb1⟩
        have C1 := hide ((unhide hbel).trans (hb1.mono (unhide hbel).size))
        have O1 := hide (own_below (unhide hown) hb1 (Nat.le_refl _))
        clear hb1
        go_wp2_with fail
        refine (unhide HCB _ ((unhide B3).trans ((unhide C1).mono (unhide B3).size))).mono ?_
        rintro e wb ⟨rfl, hb2⟩
        have C2 := hide ((unhide C1).trans (hb2.mono (unhide C1).size))
        have O2 := hide (own_below (unhide O1) hb2 (Nat.le_refl _))
        have hz2 := (unhide C2).size
        clear hb2
        have O4 : Hid (wb.ownsRow w3.heap.size 9 1 u8 (movK la lb (ks.take (k + 1))).length (StringsW.flat (movK la lb (ks.take (k + 1))))) := by
          show wb.ownsRow _ _ _ _ _ _
          rw [unhide HST]; exact unhide O2
        go_wp2
        go_roundw
        case rel => exact ⟨k + 1, by omega, by go_num, O4, C2⟩
        case measure => simp [intOf]; omega
    · obtain rfl : k = ks.length := by omega
      rw [List.take_length] at hown
      obtain ⟨va, vc, hvv⟩ := own_form (unhide hown)
      subst hvv
      obtain ⟨r, hours, hrg⟩ := StringsW.own_ours (unhide hown)
      have HO := hide hours
      have HRG := hide hrg
      have hz0 := (unhide B3).size
      clear hours hrg
      go_wp2
      go_ret2
      exact ⟨va, vc, r, rfl, unhide HO, fun g h => Nat.le_trans hz0 (unhide HRG g h), unhide hW⟩
end Ring
end Go.Proofs.YtcbmdloapmmghaaDoor
