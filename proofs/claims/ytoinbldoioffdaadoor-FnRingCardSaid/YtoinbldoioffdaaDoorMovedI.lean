/-
  The program's MovedKeys: of good nodes and keys those keys that have another owner, in a row of its own; nothing of others.
-/
import Derived.Test.YtoinbldoioffdaaDoorMovedP
import Derived.Test.YtoinbldoioffdaaDoorRingW
import Derived.Test.YtoinbldoioffdaaDoorStrY
import Derived.Test.YtoinbldoioffdaaDoorKeysI
import Derived.Test.YtoinbldoioffdaaDoorKeysO
import Derived.Maps.AppendAt
namespace Go.Proofs.YtoinbldoioffdaaDoor
namespace Ring
open Go.RowKit Base Points Marks OwnR KeysS
set_option linter.unusedVariables false

theorem moved_info : ∃ i, Tryd.prog.info? 9 = some i ∧ i.zero = some (.string ByteArray.empty) ∧ i.size = 1 ∧ i.bytes = 16 := by
  have h : (Tryd.prog.info? 9).map (fun i => (i.zero, i.size, i.bytes)) = some (some (.string ByteArray.empty), 1, 16) := by kernel_rfl
  obtain ⟨i, hi, hz⟩ := Option.map_eq_some_iff.1 h
  simp only [Prod.mk.injEq] at hz
  exact ⟨i, hi, hz.1, hz.2.1, hz.2.2⟩

set_option maxRecDepth 10000 in
set_option maxHeartbeats 4000000 in
theorem moved_opt (ba oa ca : Nat) (la : List Nodes.D) (bb ob cb : Nat) (lb : List Nodes.D) (ka : Option Addr) (kc : Nat) (ks : List ByteArray) (w : World)
    (hba : ba < w.heap.size) (hca : ∀ i, i < la.length → Nodes.At w ba (oa + i * 2) (la.getD i Nodes.zero)) (hla : la.length ≤ maxLen) (hsa : ∀ x ∈ la, Nodes.Fits x)
    (hbb : bb < w.heap.size) (hcb : ∀ i, i < lb.length → Nodes.At w bb (ob + i * 2) (lb.getD i Nodes.zero)) (hlb : lb.length ≤ maxLen) (hsb : ∀ x ∈ lb, Nodes.Fits x)
    (hck : StrsAt w ka ks) (hkl : ks.length ≤ maxLen) (hks : ∀ s ∈ ks, s.size ≤ maxLen) (hv : Vars w) :
    Calls Tryd.prog 8 #[.slice (some ⟨ba, oa, none⟩) la.length ca, .slice (some ⟨bb, ob, none⟩) lb.length cb, .slice ka ks.length kc] w fun e w' =>
      ∃ a c r, e = .returned (.tuple #[.slice a (movL la lb ks).length c, .bool (movOk la lb ks)]) ∧ StringsM.Ours w' a (movL la lb ks).length (StringsW.scell (movL la lb ks)) r ∧ (∀ g, r = some g → w.heap.size ≤ g) ∧ Below w.heap.size w w' := by
  have HGA := hide (NodesM.inodes_some ba oa ca la w hba hca hla hsa)
  have HGB := hide (fun w1 hb1 => NodesM.inodes_some bb ob cb lb w1 (Nat.lt_of_lt_of_le hbb (Below.size hb1)) (fun i hi => (hcb i hi).below hb1 hbb) hlb hsb)
  have HKY : Hid (∀ w1, Below w.heap.size w w1 → Calls Tryd.prog 13 #[.slice ka ks.length kc, .int .i64 0, .int .i64 60] w1 fun e w' => e = .returned (.bool (kB ks)) ∧ Below w1.heap.size w1 w') := fun w1 hb1 => ikeys_opt ka kc ks w1 (hck.below hb1 (Nat.le_refl _)) hkl hks
  have HRA := fun (hg : NodesM.gnB la = true) w1 hb1 => ringOf_some ba oa ca la w1 (Nat.lt_of_lt_of_le hba (Below.size hb1)) (fun i hi => (hca i hi).below hb1 hba) hg (hv.below hb1)
  have HRB := fun (hg : NodesM.gnB lb = true) w1 hb1 => ringOf_some bb ob cb lb w1 (Nat.lt_of_lt_of_le hbb (Below.size hb1)) (fun i hi => (hcb i hi).below hb1 hbb) hg (hv.below hb1)
  have HOA : ∀ (hg : NodesM.gnB la = true) g c w1 (key : ByteArray), RowAt w1 g 64 ((points la).length * 2) (icell (ring (points la))) → key.size ≤ maxLen → Calls Tryd.prog 15 #[.slice (some ⟨g, 0, none⟩) (points la).length c, .string key] w1 fun e w' => e = .returned (.string (ownK la key)) ∧ Below w1.heap.size w1 w' :=
    fun hg g c w1 key hr hk => ownerIn_some g c _ _ key w1 hr (ring_length _) (points_pos hg) (by have := points_len hg; omega) (ring_sorted _) hk
  have HOB : ∀ (hg : NodesM.gnB lb = true) g c w1 (key : ByteArray), RowAt w1 g 64 ((points lb).length * 2) (icell (ring (points lb))) → key.size ≤ maxLen → Calls Tryd.prog 15 #[.slice (some ⟨g, 0, none⟩) (points lb).length c, .string key] w1 fun e w' => e = .returned (.string (ownK lb key)) ∧ Below w1.heap.size w1 w' :=
    fun hg g c w1 key hr hk => ownerIn_some g c _ _ key w1 hr (ring_length _) (points_pos hg) (by have := points_len hg; omega) (ring_sorted _) hk
  have HKC := hide hck
  have HRL : Hid (movL la lb ks = if movOk la lb ks then movK la lb ks else []) := rfl
  have HOK : Hid (movOk la lb ks = (NodesM.gnB la && NodesM.gnB lb && kB ks)) := rfl
  clear hca hsa hcb hsb hck hks hv
  unfold maxLen at hla hlb hkl
  generalize movL la lb ks = R at HRL ⊢
  generalize movOk la lb ks = ok at HRL HOK ⊢
  cases ea : NodesM.gnB la
  · rw [ea] at HGA HOK
    have h0 : ok = false := unhide HOK
    subst h0
    obtain rfl : R = [] := unhide HRL
    clear ea HOA HOB HRA HRB HGB HKY
    go_enter Tryd.func8, Tryd.ntmps8
    go_wp2_with fail
    refine (unhide HGA).mono ?_
    rintro e w1 ⟨rfl, hb1⟩
    have B1 := hide hb1
    clear hb1
    go_wp2
    go_ret2
    exact ⟨_, _, none, rfl, .inl ⟨rfl, rfl⟩, fun g h => by simp at h, unhide B1⟩
  rw [ea] at HGA HOK
  have HOA' := hide (HOA ea)
  have HRA' := hide (HRA ea)
  cases eb : NodesM.gnB lb
  · rw [eb] at HGB HOK
    have h0 : ok = false := unhide HOK
    subst h0
    obtain rfl : R = [] := unhide HRL
    clear ea eb HOA HOB HRA HRB HKY
    go_enter Tryd.func8, Tryd.ntmps8
    go_wp2_with fail
    refine (unhide HGA).mono ?_
    rintro e w1 ⟨rfl, hb1⟩
    have B1 := hide hb1
    clear hb1
    go_wp2_with fail
    refine (unhide HGB _ (unhide B1)).mono ?_
    rintro e w2 ⟨rfl, hb2⟩
    have B2 := hide ((unhide B1).trans (hb2.mono (unhide B1).size))
    clear hb2
    go_wp2
    go_ret2
    exact ⟨_, _, none, rfl, .inl ⟨rfl, rfl⟩, fun g h => by simp at h, unhide B2⟩
  rw [eb] at HGB HOK
  have HOB' := hide (HOB eb)
  have HRB' := hide (HRB eb)
  cases ek : kB ks
  · rw [ek] at HOK
    rw [ek] at HKY
    have h0 : ok = false := unhide HOK
    subst h0
    obtain rfl : R = [] := unhide HRL
    clear ea eb ek HOA HOB HRA HRB
    go_enter Tryd.func8, Tryd.ntmps8
    go_wp2_with fail
    refine (unhide HGA).mono ?_
    rintro e w1 ⟨rfl, hb1⟩
    have B1 := hide hb1
    clear hb1
    go_wp2_with fail
    refine (unhide HGB _ (unhide B1)).mono ?_
    rintro e w2 ⟨rfl, hb2⟩
    have B2 := hide ((unhide B1).trans (hb2.mono (unhide B1).size))
    clear hb2
    go_wp2_with fail
    refine (unhide HKY _ (unhide B2)).mono ?_
    rintro e w3 ⟨rfl, hb3⟩
    have B3 := hide ((unhide B2).trans (hb3.mono (unhide B2).size))
    clear hb3
    go_wp2
    go_ret2
    exact ⟨_, _, none, rfl, .inl ⟨rfl, rfl⟩, fun g h => by simp at h, unhide B3⟩
  rw [ek] at HOK
  rw [ek] at HKY
  have h0 : ok = true := unhide HOK
  subst h0
  obtain rfl : R = movK la lb ks := unhide HRL
  have hk60 := (kB_len ek).1
  have HKS := hide (fun k hk => key_size ek (k := k) hk)
  clear ea eb ek HOA HOB HRA HRB HRL HOK
  obtain ⟨i0, hi, hz0, hz1, hz2⟩ := moved_info
  have HI := hide hi
  have HZ0 := hide hz0
  have HZ1 := hide hz1
  have HZ2 := hide hz2
  clear hi hz0 hz1 hz2
  go_enter Tryd.func8, Tryd.ntmps8
  go_wp2_with fail
  refine (unhide HGA).mono ?_
  rintro e w1 ⟨rfl, hb1⟩
  have B1 := hide hb1
  clear hb1
  go_wp2_with fail
  refine (unhide HGB _ (unhide B1)).mono ?_
  rintro e w2 ⟨rfl, hb2⟩
  have B2 := hide ((unhide B1).trans (hb2.mono (unhide B1).size))
  clear hb2
  go_wp2_with fail
  refine (unhide HKY _ (unhide B2)).mono ?_
  rintro e w3 ⟨rfl, hb3⟩
  have B3 := hide ((unhide B2).trans (hb3.mono (unhide B2).size))
  clear hb3
  go_wp2_with fail
  refine (unhide HRA' _ (unhide B3)).mono ?_
  rintro e w4 ⟨g1, c1, rfl, hg1, hrow1, hb4⟩
  have B4 := hide ((unhide B3).trans (hb4.mono (unhide B3).size))
  have R4 := hide hrow1
  clear hb4 hrow1
  go_wp2_with fail
  refine (unhide HRB' _ (unhide B4)).mono ?_
  rintro e w5 ⟨g2, c2, rfl, hg2, hrow2, hb5⟩
  have B5 := hide ((unhide B4).trans (hb5.mono (unhide B4).size))
  have R5 := hide ((unhide R4).below hb5 (unhide R4).lt)
  have S5 := hide hrow2
  have hgl1 : g1 < w5.heap.size := (unhide R5).lt
  have hgl2 : g2 < w5.heap.size := hrow2.lt
  clear hb5 hrow2 R4
  go_wp2
  go_loopw [8, 32] (fun v iv wr => ∃ k : Nat, k ≤ ks.length ∧ iv = .int .i64 (k : Int) ∧ Hid (wr.ownsRow w5.heap.size 9 1 v (movK la lb (ks.take k)).length (StringsW.flat (movK la lb (ks.take k)))) ∧ Hid (Below w5.heap.size w5 wr)) (fun _ iv _ => ks.length - (intOf iv).toNat)
  case atStart => exact ⟨0, Nat.zero_le _, rfl, hide (World.ownsRow_nil _ _ _ _), hide (Below.refl _ _)⟩
  case round =>
    obtain ⟨k, hk, rfl, hown, hbel⟩ := hrel
    have hW := hide ((unhide B5).trans ((unhide hbel).mono (unhide B5).size))
    by_cases hlt : k < ks.length
    · obtain ⟨kb, ko, hka, hkb, hkc⟩ := unhide HKC (fun e => by rw [e] at hlt; simp at hlt)
      subst hka
      have hck := ((unhide hW).cell (p := ⟨kb, ko + k, none⟩) hkb).trans (hkc k hlt)
      clear hkc
      have hss := unhide HKS k hlt
      have hst := hide (movK_step la lb ks k hlt)
      have hml := movK_len la lb ks k
      generalize ks.getD k ByteArray.empty = s at hck hss hst
      have hsm : s.size ≤ maxLen := by unfold maxLen; omega
      generalize movK la lb (ks.take k) = K at hown hst hml
      have hmb : Hid (movedB la lb s = !((ownK la s).toList == (ownK lb s).toList)) := rfl
      have hcA := fun w1 hr => unhide HOA' g1 c1 w1 s hr hsm
      have hcB := fun w1 hr => unhide HOB' g2 c2 w1 s hr hsm
      generalize ownK la s = xa at hcA hmb
      generalize ownK lb s = xb at hcB hmb
      have HCA := hide hcA
      have HCB := hide hcB
      clear hcA hcB
      cases hx : (xa.toList == xb.toList)
      · rw [hx] at hmb
        have HST : Hid (movK la lb (ks.take (k + 1)) = K ++ [s]) := by show movK la lb (ks.take (k + 1)) = _; rw [unhide hst, unhide hmb]; rfl
        clear hmb hst
        go_wp2_with fail
        refine (unhide HCA _ ((unhide R5).below (unhide hbel) hgl1)).mono ?_
        rintro e wa ⟨rfl, hb1⟩
        have C1 := hide ((unhide hbel).trans (hb1.mono (unhide hbel).size))
        have O1 := hide (own_below (unhide hown) hb1 (Nat.le_refl _))
        clear hb1
        go_wp2_with fail
        refine (unhide HCB _ ((unhide S5).below (unhide C1) hgl2)).mono ?_
        rintro e wb ⟨rfl, hb2⟩
        have C2 := hide ((unhide C1).trans (hb2.mono (unhide C1).size))
        have O2 := hide (own_below (unhide O1) hb2 (Nat.le_refl _))
        have hz2 := (unhide C2).size
        clear hb2
        go_wp2_with fail
        refine (CloneS.clone_any s _ (by omega)).mono ?_
        rintro e wd ⟨rfl, hb3⟩
        have C3 := hide ((unhide C2).trans (hb3.mono (unhide C2).size))
        have O3 := hide (own_below (unhide O2) hb3 (Nat.le_refl _))
        have hz3 := (unhide C3).size
        clear hb3
        go_wp2_with (at_builtin; go_loud (refine wpList_append_own _ rfl _ _ 24 rfl w5.heap.size 9 i0 _ 1 16 Tryd.underlying24 (unhide HI) (unhide HZ0) (unhide HZ1) (unhide HZ2) rfl (by decide) _ _ _ rfl ((unhide O3).alloc _) ⟨wd.heap.size, 0, none⟩ 1 1 [.string s] rfl rfl (cell_one_new _ _ _) (StringsW.news_one s) ?c3 ?c4 ?c5 ?_))
        case c3 => unfold maxLen; omega
        case c4 => omega
        case c5 => simp; omega
        intro v' we hown' hgrow _
        have O4 : Hid (we.ownsRow w5.heap.size 9 1 v' (movK la lb (ks.take (k + 1))).length (StringsW.flat (movK la lb (ks.take (k + 1))))) := StringsW.own_snoc hown' (unhide HST)
        have C4 := hide (((unhide C3).alloc hz3 _).grown hgrow (by simp; omega) (own_block (unhide O3)))
        clear hown' hgrow
        go_wp2
        go_roundw
        case rel => exact ⟨k + 1, by omega, by go_num, O4, C4⟩
        case measure => simp [intOf]; omega
      · rw [hx] at hmb
        have HST : Hid (movK la lb (ks.take (k + 1)) = K) := by show movK la lb (ks.take (k + 1)) = _; rw [unhide hst, unhide hmb]; simp
        clear hmb hst
        go_wp2_with fail
        refine (unhide HCA _ ((unhide R5).below (unhide hbel) hgl1)).mono ?_
        rintro e wa ⟨rfl, hb1⟩
        have C1 := hide ((unhide hbel).trans (hb1.mono (unhide hbel).size))
        have O1 := hide (own_below (unhide hown) hb1 (Nat.le_refl _))
        clear hb1
        go_wp2_with fail
        refine (unhide HCB _ ((unhide S5).below (unhide C1) hgl2)).mono ?_
        rintro e wb ⟨rfl, hb2⟩
        have C2 := hide ((unhide C1).trans (hb2.mono (unhide C1).size))
        have O2 := hide (own_below (unhide O1) hb2 (Nat.le_refl _))
        have hz2 := (unhide C2).size
        clear hb2
        have O4 : Hid (wb.ownsRow w5.heap.size 9 1 u8 (movK la lb (ks.take (k + 1))).length (StringsW.flat (movK la lb (ks.take (k + 1))))) := by
          show wb.ownsRow _ _ _ _ _ _
          rw [unhide HST]; exact unhide O2
        go_wp2
        go_roundw
        case rel => exact ⟨k + 1, by omega, by go_num, O4, C2⟩
        case measure => simp [intOf]; omega
    · obtain rfl : k = ks.length := by omega
      rw [List.take_length] at hown
      obtain ⟨va, vc, hvv⟩ := own_form (unhide hown)
      subst hvv
      obtain ⟨r, hours, hrg⟩ := StringsW.own_ours (unhide hown)
      have HO := hide hours
      have HRG := hide hrg
      have hz0 := (unhide B5).size
      clear hours hrg
      go_wp2
      go_ret2
      exact ⟨va, vc, r, rfl, unhide HO, fun g h => Nat.le_trans hz0 (unhide HRG g h), unhide hW⟩
theorem moved_any (ba oa ca : Nat) (la : List Nodes.D) (bb ob cb : Nat) (lb : List Nodes.D) (kb ko kc : Nat) (ks : List ByteArray) (w : World)
    (hba : ba < w.heap.size) (hca : ∀ i, i < la.length → Nodes.At w ba (oa + i * 2) (la.getD i Nodes.zero)) (hla : la.length ≤ maxLen) (hsa : ∀ x ∈ la, Nodes.Fits x)
    (hbb : bb < w.heap.size) (hcb : ∀ i, i < lb.length → Nodes.At w bb (ob + i * 2) (lb.getD i Nodes.zero)) (hlb : lb.length ≤ maxLen) (hsb : ∀ x ∈ lb, Nodes.Fits x)
    (hkb : kb < w.heap.size) (hkc : ∀ i, i < ks.length → w.cell? ⟨kb, ko + i, none⟩ = some (.string (ks.getD i ByteArray.empty))) (hkl : ks.length ≤ maxLen) (hks : ∀ s ∈ ks, s.size ≤ maxLen) (hv : Vars w) :
    Calls Tryd.prog 8 #[.slice (some ⟨ba, oa, none⟩) la.length ca, .slice (some ⟨bb, ob, none⟩) lb.length cb, .slice (some ⟨kb, ko, none⟩) ks.length kc] w fun e w' =>
      ∃ a c r, e = .returned (.tuple #[.slice a (movL la lb ks).length c, .bool (movOk la lb ks)]) ∧ StringsM.Ours w' a (movL la lb ks).length (StringsW.scell (movL la lb ks)) r ∧ (∀ g, r = some g → w.heap.size ≤ g) ∧ Below w.heap.size w w' :=
  moved_opt ba oa ca la bb ob cb lb (some ⟨kb, ko, none⟩) kc ks w hba hca hla hsa hbb hcb hlb hsb (fun _ => ⟨kb, ko, rfl, hkb, hkc⟩) hkl hks hv
end Ring
end Go.Proofs.YtoinbldoioffdaaDoor
