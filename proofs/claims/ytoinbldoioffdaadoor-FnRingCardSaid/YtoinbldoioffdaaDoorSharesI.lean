/-
  The program's SharesOf: of good nodes and keys how many belong to each node, in a row of its own; nothing of others.
-/
import Derived.Test.YtoinbldoioffdaaDoorSharesP
import Derived.Test.YtoinbldoioffdaaDoorIntZ
import Derived.Test.YtoinbldoioffdaaDoorRingW
import Derived.Test.YtoinbldoioffdaaDoorKeysI
import Derived.Test.YtoinbldoioffdaaDoorKeysO
import Derived.Test.YtoinbldoioffdaaDoorHashZ
namespace Go.Proofs.YtoinbldoioffdaaDoor
namespace Ring
open Go.RowKit Base Points Marks KeysS Go.Maps
set_option linter.unusedVariables false

theorem keyLaw : Keyed Tryd.prog 9 := string_keyed Tryd.underlying9
theorem zeroI (w : World) : (zeroValue 3).run Tryd.prog w = .ok (.int .i64 0) w := by kernel_rfl
theorem infoI : (Tryd.prog.info? 3).map (fun i => (i.zero, i.size, i.bytes)) = some (some (.int .i64 0), 1, 8) := by kernel_rfl
/-- The map as the program holds it. -/
def CMap (w : World) (bm n : Nat) (c : ByteArray → Nat) : Prop := ∃ D : DataW Unit, w.ownsMap Tryd.prog 9 (plainElem Tryd.prog 3) bm n D ∧ CountIs D c
theorem CMap.below {w w' : World} {bm n B : Nat} {c : ByteArray → Nat} (h : CMap w bm n c) (hb : Below B w w') (hB : bm < B) : CMap w' bm n c := by
  obtain ⟨D, hm, hc⟩ := h
  exact ⟨D, Keep.map_below hm hb hB, hc⟩
theorem CMap.lt {w : World} {bm n : Nat} {c : ByteArray → Nat} (h : CMap w bm n c) : bm < w.heap.size := by
  obtain ⟨D, hm, _⟩ := h
  exact hm.lt
theorem CMap.look {w : World} {bm n : Nat} {c : ByteArray → Nat} (h : CMap w bm n c) {s : ByteArray} (hs : s.size ≤ maxLen) : (Instr.lookup 46 (.map (some bm)) (.string s) false).run Tryd.prog w = .ok (.int .i64 (c s : Nat)) w := by
  obtain ⟨D, hm, hc⟩ := h
  obtain ⟨x, hrun, hat, -⟩ := hm.lookup_int (key := .string s) (kl := kk s) keyLaw Tryd.underlying46 Tryd.underlying3 (zeroI w) (Go.WideMaps.keyOf_string_mk Tryd.underlying9 hs)
  rw [hc s] at hat
  simp only [DataW.lit.injEq, Lit.int.injEq, true_and] at hat
  rw [← hat] at hrun
  exact hrun

theorem own_size {L : List D} {h : Int} (hL : ∀ x ∈ L, x.name.size ≤ 8) (h0 : 0 < L.length) : (ownerN L h).size ≤ 8 := by
  unfold ownerN
  split
  · rename_i p hp
    exact hL p (List.mem_of_find?_eq_some hp)
  · rw [List.getD_eq_getElem?_getD, List.getElem?_eq_getElem h0]
    exact hL _ (List.getElem_mem _)
theorem ownK_size {l : List Nodes.D} (hg : NodesM.gnB l = true) (k : ByteArray) : (ownK l k).size ≤ 8 := by
  unfold ownK
  refine own_size (fun x hx => ?_) (by rw [ring_length]; exact points_pos hg)
  have hx2 := (ring_perm (points l)).subset hx
  unfold points at hx2
  obtain ⟨y, hy, hxy⟩ := List.mem_flatMap.1 hx2
  obtain ⟨i, hi, rfl⟩ := List.mem_iff_getElem.1 hy
  have hb := node_bd (good_at hg hi)
  rw [List.getD_eq_getElem?_getD, List.getElem?_eq_getElem hi] at hb
  unfold ptsOf ptsN at hxy
  obtain ⟨j, _, rfl⟩ := List.mem_map.1 hxy
  exact hb.1

def shalf (l : List Nodes.D) (ks : List ByteArray) (i j : Nat) : Value := if j < i then ncell (shK l ks) j else .int .i64 0
theorem shalf_step (l : List Nodes.D) (ks : List ByteArray) (i : Nat) (hi : i < l.length) (j : Nat) : (if j = i then (.int .i64 (cnt l ks (l.getD i Nodes.zero).name) : Value) else shalf l ks i j) = shalf l ks (i + 1) j := by
  unfold shalf
  by_cases h : j = i
  · subst h; rw [if_pos rfl, if_pos (by omega), shK_cell l ks j hi]
  · rw [if_neg h]
    by_cases h2 : j < i
    · rw [if_pos h2, if_pos (by omega)]
    · rw [if_neg h2, if_neg (by omega)]

set_option maxRecDepth 10000 in
set_option maxHeartbeats 4000000 in
theorem shares_opt (ba oa ca : Nat) (la : List Nodes.D) (ka : Option Addr) (kc : Nat) (ks : List ByteArray) (w : World)
    (hba : ba < w.heap.size) (hca : ∀ i, i < la.length → Nodes.At w ba (oa + i * 2) (la.getD i Nodes.zero)) (hla : la.length ≤ maxLen) (hsa : ∀ x ∈ la, Nodes.Fits x)
    (hck : StrsAt w ka ks) (hkl : ks.length ≤ maxLen) (hks : ∀ s ∈ ks, s.size ≤ maxLen) (hv : Vars w) :
    Calls Tryd.prog 5 #[.slice (some ⟨ba, oa, none⟩) la.length ca, .slice ka ks.length kc] w fun e w' =>
      ∃ a c r, e = .returned (.tuple #[.slice a (shL la ks).length c, .bool (shOk la ks)]) ∧ IntsM.Ours w' a (shL la ks).length (ncell (shL la ks)) r ∧ (∀ g, r = some g → w.heap.size ≤ g) ∧ Below w.heap.size w w' := by
  have HGA := hide (NodesM.inodes_some ba oa ca la w hba hca hla hsa)
  have HKY : Hid (∀ w1, Below w.heap.size w w1 → Calls Tryd.prog 13 #[.slice ka ks.length kc, .int .i64 0, .int .i64 60] w1 fun e w' => e = .returned (.bool (kB ks)) ∧ Below w1.heap.size w1 w') := fun w1 hb1 => ikeys_opt ka kc ks w1 (hck.below hb1 (Nat.le_refl _)) hkl hks
  have HRA := fun (hg : NodesM.gnB la = true) w1 hb1 => ringOf_some ba oa ca la w1 (Nat.lt_of_lt_of_le hba (Below.size hb1)) (fun i hi => (hca i hi).below hb1 hba) hg (hv.below hb1)
  have HOA : ∀ (hg : NodesM.gnB la = true) g c w1 (key : ByteArray), RowAt w1 g 64 ((points la).length * 2) (icell (ring (points la))) → key.size ≤ maxLen → Calls Tryd.prog 15 #[.slice (some ⟨g, 0, none⟩) (points la).length c, .string key] w1 fun e w' => e = .returned (.string (ownK la key)) ∧ Below w1.heap.size w1 w' :=
    fun hg g c w1 key hr hk => ownerIn_some g c _ _ key w1 hr (ring_length _) (points_pos hg) (by have := points_len hg; omega) (ring_sorted _) hk
  have HOS := fun (hg : NodesM.gnB la = true) key => ownK_size hg key
  have HKC := hide hck
  have HCA := hide hca
  have HRL : Hid (shL la ks = if shOk la ks then shK la ks else []) := rfl
  have HOK : Hid (shOk la ks = (NodesM.gnB la && kB ks)) := rfl
  clear hca hck hks hv
  unfold maxLen at hla hkl
  generalize shL la ks = R at HRL ⊢
  generalize shOk la ks = ok at HRL HOK ⊢
  cases ea : NodesM.gnB la
  · rw [ea] at HGA HOK
    have h0 : ok = false := unhide HOK
    subst h0
    obtain rfl : R = [] := unhide HRL
    clear ea HOA HRA HKY HOS hsa
    go_enter Tryd.func5, Tryd.ntmps5
    go_wp2_with fail
    refine (unhide HGA).mono ?_
    rintro e w1 ⟨rfl, hb1⟩
    have B1 := hide hb1
    clear hb1
    go_wp2
    go_ret2
    exact ⟨_, _, none, rfl, .inl ⟨rfl, rfl⟩, fun g h => by simp at h, unhide B1⟩
  rw [ea] at HGA HOK
  have HOA' := hide (HOA ea)
  have HRA' := hide (HRA ea)
  have HOS' := hide (HOS ea)
  have HNB := hide (fun k hk => (node_bd (good_at ea (k := k) hk)).1)
  have hl8 := (good_len ea)
  cases ek : kB ks
  · rw [ek] at HOK HKY
    have h0 : ok = false := unhide HOK
    subst h0
    obtain rfl : R = [] := unhide HRL
    clear ea ek HOA HRA HOS hsa
    go_enter Tryd.func5, Tryd.ntmps5
    go_wp2_with fail
    refine (unhide HGA).mono ?_
    rintro e w1 ⟨rfl, hb1⟩
    have B1 := hide hb1
    clear hb1
    go_wp2_with fail
    refine (unhide HKY _ (unhide B1)).mono ?_
    rintro e w3 ⟨rfl, hb3⟩
    have B3 := hide ((unhide B1).trans (hb3.mono (unhide B1).size))
    clear hb3
    go_wp2
    go_ret2
    exact ⟨_, _, none, rfl, .inl ⟨rfl, rfl⟩, fun g h => by simp at h, unhide B3⟩
  rw [ek] at HOK HKY
  have h0 : ok = true := unhide HOK
  subst h0
  obtain rfl : R = shK la ks := unhide HRL
  have hk60 := (kB_len ek).1
  have HKS := hide (fun k hk => key_size ek (k := k) hk)
  have hshl : (shK la ks).length = la.length := by simp [shK]
  rw [hshl]
  clear ea ek HOA HRA HRL HOK HOS hsa hshl
  have hmm := @run_makeMap Tryd.prog
  have hmk := fun w => run_make_row' (P := Tryd.prog) 27 3 (.int .i64 0) 8 Tryd.underlying27 infoI rfl .i64 .i64 la.length (by omega) (by omega) w
  go_enter Tryd.func5, Tryd.ntmps5
  go_wp2_with fail
  refine (unhide HGA).mono ?_
  rintro e w1 ⟨rfl, hb1⟩
  have B1 := hide hb1
  clear hb1
  go_wp2_with fail
  refine (unhide HKY _ (unhide B1)).mono ?_
  rintro e w3 ⟨rfl, hb3⟩
  have B3 := hide ((unhide B1).trans (hb3.mono (unhide B1).size))
  clear hb3
  go_wp2_with fail
  refine (unhide HRA' _ ((unhide B3).alloc (unhide B3).size _)).mono ?_
  rintro e w4 ⟨g1, c1, rfl, hg1, hrow1, hb4⟩
  simp only [World.size_alloc] at hg1 hb4
  have B4 := hide (((unhide B3).alloc (unhide B3).size _).trans (hb4.mono (by have := (unhide B3).size; omega)))
  have R4 := hide hrow1
  have M4 : Hid (CMap w4 w3.heap.size 0 (cnt la (ks.take 0))) := by
    have hm := World.ownsMap_made w3 Tryd.prog 9 (plainElem (H := Unit) Tryd.prog 3)
    exact ⟨.map [], Keep.map_below hm hb4 (by omega), fun nm => by rw [countIs_new nm]; simp [cnt]⟩
  have hne1 : g1 ≠ w3.heap.size := by omega
  clear hb4 hrow1
  go_wp2
  go_loopw [26] (fun iv wr => ∃ k : Nat, k ≤ ks.length ∧ iv = .int .i64 (k : Int) ∧ Hid (CMap wr w3.heap.size k (cnt la (ks.take k))) ∧ Hid (RowAt wr g1 64 ((points la).length * 2) (icell (ring (points la)))) ∧ Hid (Below w.heap.size w wr)) (fun iv _ => ks.length - (intOf iv).toNat)
  case atStart => exact ⟨0, Nat.zero_le _, rfl, M4, R4, B4⟩
  case round =>
    clear M4 R4
    obtain ⟨k, hk, rfl, hmap, hrow, hbel⟩ := hrel
    by_cases hlt : k < ks.length
    · obtain ⟨kb, ko, hka, hkb, hkc⟩ := unhide HKC (fun e => by rw [e] at hlt; simp at hlt)
      subst hka
      have hck := ((unhide hbel).cell (p := ⟨kb, ko + k, none⟩) hkb).trans (hkc k hlt)
      clear hkc
      have hss := unhide HKS k hlt
      have hst := hide (fun nm => cnt_step la ks k hlt nm)
      have hcl := fun nm => cnt_le la ks k nm
      generalize ks.getD k ByteArray.empty = s at hck hss hst
      have hsm : s.size ≤ maxLen := by unfold maxLen; omega
      have hos := unhide HOS' s
      have hcA := fun w1 hr => unhide HOA' g1 c1 w1 s hr hsm
      generalize ownK la s = xa at hcA hst hos
      have hxm : xa.size ≤ maxLen := by unfold maxLen; omega
      have HCC := hide hcA
      have hcx := hcl xa
      clear hcA hcl
      go_wp2_with fail
      refine (unhide HCC _ (unhide hrow)).mono ?_
      rintro e wa ⟨rfl, hb1⟩
      have C1 := hide ((unhide hbel).trans (hb1.mono (unhide hbel).size))
      have M1 := hide ((unhide hmap).below hb1 (unhide hmap).lt)
      have R1 := hide ((unhide hrow).below hb1 (unhide hrow).lt)
      have hlk := (unhide M1).look hxm
      have HKEY := hide (Go.WideMaps.keyOf_string_mk Tryd.underlying9 hxm)
      obtain ⟨D, hmD, hcD⟩ := unhide M1
      have HMD := hide hmD
      have HPE := hide (plainElem_int (H := Unit) (P := Tryd.prog) (a := ((cnt la (ks.take k) xa : Nat) : Int) + 1) Tryd.underlying3 (WalkArith.wf_i64 (by omega)))
      have HCP := hide (hcD.put (hmD.tidy keyLaw) xa (unhide hst))
      clear hb1 hmD hcD
      generalize cnt la (ks.take k) xa = cx at hlk hcx HPE HCP
      go_wp2_with (at_mapUpdate; go_loud (refine wpList_mapUpdate_in _ rfl _ _ _ 46 rfl 9 3 keyLaw Tryd.underlying46 _ w3.heap.size k _ rfl (unhide HMD) (by unfold maxLen; omega) _ _ _ rfl rfl (unhide HKEY) _ [] (unhide HPE) ?_))
      intro wb hown hturn
      have M2 : Hid (CMap wb w3.heap.size (k + 1) (cnt la (ks.take (k + 1)))) := ⟨_, hown, unhide HCP⟩
      have R2 := hide ((unhide R1).gb hturn.grown hne1)
      have C2 := hide (Marks.below_gb (unhide C1) hturn.grown (unhide C1).size (unhide B3).size)
      clear hown hturn hlk
      go_wp2
      go_roundw
      case rel => exact ⟨k + 1, by omega, by go_num, M2, R2, C2⟩
      case measure => simp [intOf]; omega
    · obtain rfl : k = ks.length := by omega
      rw [List.take_length] at hmap
      have hw0 := (unhide hbel).size
      have hml := (unhide hmap).lt
      go_wp2
      have RS0 : Hid (RowAt (wr.alloc (.cells (madeCells #[.int .i64 0] la.length) 3)) wr.heap.size 3 la.length (shalf la ks 0)) := RowAt.of_row ((rowIs_mades wr #[.int .i64 0] la.length 3 (fun _ => .int .i64 0) (fun i => by simp [Nat.mod_one])).congr (fun j _ => by simp [shalf]))
      have MS0 := hide ((unhide hmap).below (bel1 wr (.cells (madeCells #[.int .i64 0] la.length) 3)) hml)
      have BS0 := hide ((unhide hbel).alloc hw0 (.cells (madeCells #[.int .i64 0] la.length) 3))
      have hbs1 : w3.heap.size < wr.heap.size := hml
      clear hmap hrow hbel
      generalize hbs : wr.heap.size = bs at hbs1 hw0 RS0 ⊢
      clear hbs hml
      go_loopw [42] (fun iv wi => ∃ i : Nat, i ≤ la.length ∧ iv = .int .i64 (i : Int) ∧ Hid (RowAt wi bs 3 la.length (shalf la ks i)) ∧ Hid (CMap wi w3.heap.size ks.length (cnt la ks)) ∧ Hid (Below w.heap.size w wi)) (fun iv _ => la.length - (intOf iv).toNat)
      case atStart => exact ⟨0, Nat.zero_le _, rfl, RS0, MS0, BS0⟩
      case round =>
        clear RS0 MS0 BS0
        obtain ⟨i, hi, rfl, hrs, hms, hbi⟩ := hrel
        by_cases hlt2 : i < la.length
        · obtain ⟨c0, c1'⟩ := (unhide HCA i hlt2).below (unhide hbi) hba
          have hst := hide (shalf_step la ks i hlt2)
          have hnm := unhide HNB i hlt2
          have d0 := (unhide hrs).cell (i := i) hlt2
          have f0 := (unhide hrs).frozen i
          have hbl := (unhide hrs).lt
          generalize la.getD i Nodes.zero = x at c0 c1' hst hnm
          have hlk := ((unhide hms).below (bel1 wr (.cells #[.string x.name, .int .i64 x.weight] 36)) (unhide hms).lt).look (s := x.name) (by unfold maxLen; omega)
          generalize cnt la ks x.name = cx at hlk hst
          generalize shalf la ks i i = v0 at d0
          have hzi := (unhide hbi).size
          have hml2 := (unhide hms).lt
          have hr2 := (unhide hrs).set i (.int .i64 (cx : Nat))
          have HR2 := hide ((hr2.below (bel1 _ (.cells #[.string x.name, .int .i64 x.weight] 36)) hr2.lt).congr (fun j _ => unhide hst j))
          have hm2 := (unhide hms)
          have HM2 : Hid (CMap ((wr.setCell ⟨bs, i, none⟩ (.int .i64 (cx : Nat))).alloc (.cells #[.string x.name, .int .i64 x.weight] 36)) w3.heap.size ks.length (cnt la ks)) := by
            obtain ⟨D, h1, h2⟩ := hm2
            exact CMap.below (w := wr.setCell ⟨bs, i, none⟩ (.int .i64 (cx : Nat))) ⟨D, h1.setCell (by simp; omega) _, h2⟩ (bel1 _ _) (by simp [World.setCell]; omega)
          have HB2 := hide (((unhide hbi).setCell (p := ⟨bs, i, none⟩) (by simp; omega) (.int .i64 (cx : Nat))).alloc (by simp [World.setCell]; omega) (.cells #[.string x.name, .int .i64 x.weight] 36))
          clear hr2 hm2
          go_wp2
          go_roundw
          case rel => exact ⟨i + 1, by omega, by go_num, HR2, HM2, HB2⟩
          case measure => simp [intOf]; omega
        · obtain rfl : i = la.length := by omega
          have HRF := hide ((unhide hrs).congr (g := ncell (shK la ks)) (fun j hj => by unfold shalf; rw [if_pos hj]))
          go_wp2
          go_ret2
          exact ⟨_, _, some bs, rfl, .inr ⟨bs, rfl, rfl, unhide HRF⟩, fun g h => by simp at h; omega, unhide hbi⟩
theorem shares_any (ba oa ca : Nat) (la : List Nodes.D) (kb ko kc : Nat) (ks : List ByteArray) (w : World)
    (hba : ba < w.heap.size) (hca : ∀ i, i < la.length → Nodes.At w ba (oa + i * 2) (la.getD i Nodes.zero)) (hla : la.length ≤ maxLen) (hsa : ∀ x ∈ la, Nodes.Fits x)
    (hkb : kb < w.heap.size) (hkc : ∀ i, i < ks.length → w.cell? ⟨kb, ko + i, none⟩ = some (.string (ks.getD i ByteArray.empty))) (hkl : ks.length ≤ maxLen) (hks : ∀ s ∈ ks, s.size ≤ maxLen) (hv : Vars w) :
    Calls Tryd.prog 5 #[.slice (some ⟨ba, oa, none⟩) la.length ca, .slice (some ⟨kb, ko, none⟩) ks.length kc] w fun e w' =>
      ∃ a c r, e = .returned (.tuple #[.slice a (shL la ks).length c, .bool (shOk la ks)]) ∧ IntsM.Ours w' a (shL la ks).length (ncell (shL la ks)) r ∧ (∀ g, r = some g → w.heap.size ≤ g) ∧ Below w.heap.size w w' :=
  shares_opt ba oa ca la (some ⟨kb, ko, none⟩) kc ks w hba hca hla hsa (fun _ => ⟨kb, ko, rfl, hkb, hkc⟩) hkl hks hv
end Ring
end Go.Proofs.YtoinbldoioffdaaDoor
