/-
  The model's SharesOf: of good nodes and keys how many belong to each node, in a row of its own; nothing of others.
-/
import Derived.Test.YtoinbldoioffdaaDoorSharesP
import Derived.Test.YtoinbldoioffdaaDoorIntZ
import Derived.Test.YtoinbldoioffdaaDoorRingZ
import Derived.Test.YtoinbldoioffdaaDoorKeysS
import Derived.Test.YtoinbldoioffdaaDoorKeysO
namespace Go.Proofs.YtoinbldoioffdaaDoor
namespace Ring
open Go.RowKit Base Points Marks KeysS
set_option linter.unusedVariables false

theorem mcount_at (l : List Nodes.D) (ks : List ByteArray) (k i : Nat) : mcount l ks k i i = .int .i64 (cnt l (ks.take k) (l.getD i Nodes.zero).name) := by
  unfold mcount; rw [if_neg (by omega)]
theorem mcount_step (l : List Nodes.D) (ks : List ByteArray) (k i j : Nat) : (if j = i then (.int .i64 (cnt l (ks.take (k + 1)) (l.getD i Nodes.zero).name) : Value) else mcount l ks k i j) = mcount l ks k (i + 1) j := by
  unfold mcount
  by_cases h : j = i
  · subst h; rw [if_pos rfl, if_pos (by omega)]
  · rw [if_neg h]
    by_cases h2 : j < i
    · rw [if_pos h2, if_pos (by omega)]
    · rw [if_neg h2, if_neg (by omega)]

set_option maxRecDepth 10000 in
set_option maxHeartbeats 4000000 in
theorem mshares_opt (ba oa ca : Nat) (la : List Nodes.D) (ka : Option Addr) (kc : Nat) (ks : List ByteArray) (w : World)
    (hba : ba < w.heap.size) (hca : ∀ i, i < la.length → Nodes.At w ba (oa + i * 2) (la.getD i Nodes.zero)) (hla : la.length ≤ maxLen) (hsa : ∀ x ∈ la, Nodes.Fits x)
    (hck : StrsAt w ka ks) (hkl : ks.length ≤ maxLen) (hks : ∀ s ∈ ks, s.size ≤ maxLen) :
    Calls Tryd.prog 6 #[.slice (some ⟨ba, oa, none⟩) la.length ca, .slice ka ks.length kc] w fun e w' =>
      ∃ a c r, e = .returned (.tuple #[.slice a (shL la ks).length c, .bool (shOk la ks)]) ∧ IntsM.Ours w' a (shL la ks).length (ncell (shL la ks)) r ∧ (∀ g, r = some g → w.heap.size ≤ g) ∧ Below w.heap.size w w' := by
  have HGA := hide (NodesM.nodes_some ba oa ca la w hba hca hla hsa)
  have HKY : Hid (∀ w1, Below w.heap.size w w1 → Calls Tryd.prog 17 #[.slice ka ks.length kc] w1 fun e w' => e = .returned (.bool (kB ks)) ∧ Below w1.heap.size w1 w') := fun w1 hb1 => skeys_opt ka kc ks w1 (hck.below hb1 (Nat.le_refl _)) hkl hks
  have HOA := fun (hg : NodesM.gnB la = true) (key : ByteArray) w1 hb1 hk => mowner_some ba oa ca la key w1 (Nat.lt_of_lt_of_le hba (Below.size hb1)) (fun i hi => (hca i hi).below hb1 hba) hg hk
  have HKC := hide hck
  have HCA := hide hca
  have HRL : Hid (shL la ks = if shOk la ks then shK la ks else []) := rfl
  have HOK : Hid (shOk la ks = (NodesM.gnB la && kB ks)) := rfl
  clear hca hck hks
  unfold maxLen at hla hkl
  generalize shL la ks = R at HRL ⊢
  generalize shOk la ks = ok at HRL HOK ⊢
  cases ea : NodesM.gnB la
  · rw [ea] at HGA HOK
    have h0 : ok = false := unhide HOK
    subst h0
    obtain rfl : R = [] := unhide HRL
    clear ea HOA HKY hsa
    go_enter Tryd.func6, Tryd.ntmps6
    go_wp2_with fail
    refine (unhide HGA).mono ?_
    rintro e w1 ⟨rfl, hb1⟩
    have B1 := hide hb1
    clear hb1
    go_wp2
    go_ret2
    exact ⟨_, _, none, rfl, .inl ⟨rfl, rfl⟩, fun g h => by simp at h, unhide B1⟩
  rw [ea] at HGA HOK
  have HOA' := hide (HOA ea)
  have HNB := hide (fun k hk => (node_bd (good_at ea (k := k) hk)).1)
  have hl8 := (good_len ea)
  cases ek : kB ks
  · rw [ek] at HOK HKY
    have h0 : ok = false := unhide HOK
    subst h0
    obtain rfl : R = [] := unhide HRL
    clear ea ek HOA hsa
    go_enter Tryd.func6, Tryd.ntmps6
    go_wp2_with fail
    refine (unhide HGA).mono ?_
    rintro e w1 ⟨rfl, hb1⟩
    have B1 := hide hb1
    clear hb1
    go_wp2_with fail
    refine (unhide HKY _ (unhide B1)).mono ?_
    rintro e w3 ⟨rfl, hb3⟩
    have B3 := hide ((unhide B1).trans (hb3.mono (unhide B1).size))
    clear hb3
    go_wp2
    go_ret2
    exact ⟨_, _, none, rfl, .inl ⟨rfl, rfl⟩, fun g h => by simp at h, unhide B3⟩
  rw [ek] at HOK HKY
  have h0 : ok = true := unhide HOK
  subst h0
  obtain rfl : R = shK la ks := unhide HRL
  have hk60 := (kB_len ek).1
  have HKS := hide (fun k hk => key_size ek (k := k) hk)
  have hshl : (shK la ks).length = la.length := by simp [shK]
  rw [hshl]
  clear ea ek HOA HRL HOK hsa hshl
  have hmk := fun w => run_make_row' (P := Tryd.prog) 27 3 (.int .i64 0) 8 Tryd.underlying27 (by kernel_rfl) rfl .i64 .i64 la.length (by omega) (by omega) w
  go_enter Tryd.func6, Tryd.ntmps6
  go_wp2_with fail
  refine (unhide HGA).mono ?_
  rintro e w1 ⟨rfl, hb1⟩
  have B1 := hide hb1
  clear hb1
  go_wp2_with fail
  refine (unhide HKY _ (unhide B1)).mono ?_
  rintro e w3 ⟨rfl, hb3⟩
  have B3 := hide ((unhide B1).trans (hb3.mono (unhide B1).size))
  clear hb3
  go_wp2
  have hw3 := (unhide B3).size
  have RS0 : Hid (RowAt (w3.alloc (.cells (madeCells #[.int .i64 0] la.length) 3)) w3.heap.size 3 la.length (mcount la ks 0 0)) := RowAt.of_row ((rowIs_mades w3 #[.int .i64 0] la.length 3 (fun _ => .int .i64 0) (fun i => by simp [Nat.mod_one])).congr (fun j _ => by simp [mcount, cnt]))
  have BS0 := hide ((unhide B3).alloc hw3 (.cells (madeCells #[.int .i64 0] la.length) 3))
  generalize hbs : w3.heap.size = bs at hw3 RS0 ⊢
  clear hbs
  go_loopw [25] (fun iv wr => ∃ k : Nat, k ≤ ks.length ∧ iv = .int .i64 (k : Int) ∧ Hid (RowAt wr bs 3 la.length (mcount la ks k 0)) ∧ Hid (Below w.heap.size w wr)) (fun iv _ => ks.length - (intOf iv).toNat)
  case atStart => exact ⟨0, Nat.zero_le _, rfl, RS0, BS0⟩
  case round =>
    clear RS0 BS0
    obtain ⟨k, hk, rfl, hrow, hbel⟩ := hrel
    by_cases hlt : k < ks.length
    · obtain ⟨kb, ko, hka, hkb, hkc⟩ := unhide HKC (fun e => by rw [e] at hlt; simp at hlt)
      subst hka
      have hck := ((unhide hbel).cell (p := ⟨kb, ko + k, none⟩) hkb).trans (hkc k hlt)
      clear hkc
      have hss := unhide HKS k hlt
      have hst := hide (fun nm => cnt_step la ks k hlt nm)
      have hcl := hide (fun nm => cnt_le la ks k nm)
      have hmS := hide (fun i => mcount_step la ks k i)
      generalize ks.getD k ByteArray.empty = s at hck hss hst
      have hsm : s.size ≤ maxLen := by unfold maxLen; omega
      have hcA := fun w1 hb1 => unhide HOA' s w1 hb1 hsm
      have eA : ownerN (ring (points la)) (Hash.hashN s.data.toList) = ownK la s := rfl
      rw [eA] at hcA
      generalize ownK la s = xa at hcA hst
      have HCC := hide hcA
      clear hcA eA
      go_wp2_with fail
      refine (unhide HCC _ (unhide hbel)).mono ?_
      rintro e wa ⟨rfl, hb1⟩
      have C1 := hide ((unhide hbel).trans (hb1.mono (unhide hbel).size))
      have R1 := hide ((unhide hrow).below hb1 (unhide hrow).lt)
      clear hb1 hrow hbel
      go_wp2
      go_loopw [34] (fun iv wi => ∃ i : Nat, i ≤ la.length ∧ iv = .int .i64 (i : Int) ∧ Hid (RowAt wi bs 3 la.length (mcount la ks k i)) ∧ Hid (Below w.heap.size w wi)) (fun iv _ => la.length - (intOf iv).toNat)
      case atStart => exact ⟨0, Nat.zero_le _, rfl, R1, C1⟩
      case round =>
        clear R1 C1
        obtain ⟨i, hi, rfl, hrs, hbi⟩ := hrel
        by_cases hlt2 : i < la.length
        · obtain ⟨c0, c1'⟩ := (unhide HCA i hlt2).below (unhide hbi) hba
          have d0 := (unhide hrs).cell (i := i) hlt2
          rw [mcount_at] at d0
          have f0 := (unhide hrs).frozen i
          have hbl := (unhide hrs).lt
          have hs2 := hide (unhide hmS i)
          have hma := hide (mcount_at la ks k i)
          have hc2 := unhide hst (la.getD i Nodes.zero).name
          have hcb := unhide hcl (la.getD i Nodes.zero).name
          generalize la.getD i Nodes.zero = x at c0 c1' d0 hs2 hc2 hcb hma
          have hzi := (unhide hbi).size
          cases hx : (x.name.toList == xa.toList)
          · have hx2 : (xa.toList == x.name.toList) = false := by
              rw [beq_eq_false_iff_ne] at hx ⊢; exact fun e => hx e.symm
            rw [hx2] at hc2
            have HR2 : Hid (RowAt (wr.alloc (.cells #[.string x.name, .int .i64 x.weight] 36)) bs 3 la.length (mcount la ks k (i + 1))) := by
              refine ((unhide hrs).below (bel1 wr _) hbl).congr (fun j _ => ?_)
              rw [← unhide hs2 j]
              by_cases e : j = i
              · subst e; rw [if_pos rfl, unhide hma, hc2]; simp
              · rw [if_neg e]
            have HB2 := hide ((unhide hbi).alloc hzi (.cells #[.string x.name, .int .i64 x.weight] 36))
            clear hc2 hx2
            go_wp2
            go_roundw
            case rel => exact ⟨i + 1, by omega, by go_num, HR2, HB2⟩
            case measure => simp [intOf]; omega
          · have hx2 : (xa.toList == x.name.toList) = true := by
              rw [beq_iff_eq] at hx ⊢; exact hx.symm
            rw [hx2] at hc2
            generalize cnt la (ks.take k) x.name = cx at d0 hc2 hcb
            have hr2 := (unhide hrs).set i (.int .i64 ((cx : Int) + 1))
            have HR2 := hide ((hr2.below (bel1 _ (.cells #[.string x.name, .int .i64 x.weight] 36)) hr2.lt).congr (g := mcount la ks k (i + 1)) (fun j _ => by
              rw [← unhide hs2 j]
              by_cases e : j = i
              · subst e; simp only [if_true]; rw [hc2]; simp
              · simp only [if_neg e]))
            have HB2 := hide (((unhide hbi).setCell (p := ⟨bs, i, none⟩) (by simp; omega) (.int .i64 ((cx : Int) + 1))).alloc (by simp [World.setCell]; omega) (.cells #[.string x.name, .int .i64 x.weight] 36))
            clear hr2 hc2 hx2
            go_wp2
            go_roundw
            case rel => exact ⟨i + 1, by omega, by go_num, HR2, HB2⟩
            case measure => simp [intOf]; omega
        · obtain rfl : i = la.length := by omega
          have HR2 : Hid (RowAt wr bs 3 la.length (mcount la ks (k + 1) 0)) := (unhide hrs).congr (fun j hj => by unfold mcount; rw [if_pos hj, if_neg (by omega)])
          go_wp2
          go_roundw
          case rel => exact ⟨k + 1, by omega, by go_num, HR2, hbi⟩
          case measure => simp [intOf]; omega
    · obtain rfl : k = ks.length := by omega
      have HRF : Hid (RowAt wr bs 3 la.length (ncell (shK la ks))) := (unhide hrow).congr (fun j hj => by
        rw [shK_cell la ks j hj]; unfold mcount; rw [if_neg (by omega), List.take_length])
      go_wp2
      go_ret2
      exact ⟨_, _, some bs, rfl, .inr ⟨bs, rfl, rfl, unhide HRF⟩, fun g h => by simp at h; omega, unhide hbel⟩
theorem mshares_any (ba oa ca : Nat) (la : List Nodes.D) (kb ko kc : Nat) (ks : List ByteArray) (w : World)
    (hba : ba < w.heap.size) (hca : ∀ i, i < la.length → Nodes.At w ba (oa + i * 2) (la.getD i Nodes.zero)) (hla : la.length ≤ maxLen) (hsa : ∀ x ∈ la, Nodes.Fits x)
    (hkb : kb < w.heap.size) (hkc : ∀ i, i < ks.length → w.cell? ⟨kb, ko + i, none⟩ = some (.string (ks.getD i ByteArray.empty))) (hkl : ks.length ≤ maxLen) (hks : ∀ s ∈ ks, s.size ≤ maxLen) :
    Calls Tryd.prog 6 #[.slice (some ⟨ba, oa, none⟩) la.length ca, .slice (some ⟨kb, ko, none⟩) ks.length kc] w fun e w' =>
      ∃ a c r, e = .returned (.tuple #[.slice a (shL la ks).length c, .bool (shOk la ks)]) ∧ IntsM.Ours w' a (shL la ks).length (ncell (shL la ks)) r ∧ (∀ g, r = some g → w.heap.size ≤ g) ∧ Below w.heap.size w w' :=
  mshares_opt ba oa ca la (some ⟨kb, ko, none⟩) kc ks w hba hca hla hsa (fun _ => ⟨kb, ko, rfl, hkb, hkc⟩) hkl hks
end Ring
end Go.Proofs.YtoinbldoioffdaaDoor
