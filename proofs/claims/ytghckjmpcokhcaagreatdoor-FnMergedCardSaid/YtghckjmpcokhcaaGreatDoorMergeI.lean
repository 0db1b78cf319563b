/-
  The program's MergeAnswers.
-/
import Derived.Test.YtghckjmpcokhcaaGreatDoorMergeB
import Derived.Test.YtghckjmpcokhcaaGreatDoorMergeGZ
import Derived.Test.YtghckjmpcokhcaaGreatDoorMergeW
import Derived.Test.YtghckjmpcokhcaaGreatDoorTakeI
import Derived.Test.YtghckjmpcokhcaaGreatDoorRdVZ
import Derived.Test.YtghckjmpcokhcaaGreatDoorBldZ
import Derived.Test.YtghckjmpcokhcaaGreatDoorRingUZ
import Derived.Test.YtghckjmpcokhcaaGreatDoorKeysI
namespace Go.Proofs.YtghckjmpcokhcaaGreatDoor
namespace Merge
open Go.RowKit Base Items Split Marks KeysS Ring Parts Rd Vals
set_option linter.unusedVariables false

theorem fits_good {x : Itm} {token : Bool} (h : goodV x token = true) : Fits x := by
  have hk : GoodKey.gk x.key.data.toList = true ∧ (x.data.size : Int) ≤ 100 := by
    simp only [goodV, Bool.and_eq_true, decide_eq_true_eq] at h
    exact ⟨h.1.1.1, h.1.2⟩
  have e1 := hk.1
  simp only [GoodKey.gk, GoodKey.inB, Bool.and_eq_true, decide_eq_true_eq] at e1
  have el : x.key.data.toList.length = x.key.size := by simp
  unfold Fits maxLen
  omega
/-- A slice of items that a call made: where they lie. -/
theorem pit_own {w : World} {B tb kb c : Nat} {a : Option Addr} {its : List Itm} (h : w.ownsRow B 35 5 (.slice a its.length c) its.length (Own.flat its)) (hB : tb < B) (hkb : kb < w.heap.size) (hkt : kb ≠ tb) :
    ∃ g, g < w.heap.size ∧ g ≠ tb ∧ PIt w g a its ∧ its.length ≤ c := by
  rcases h.2 with ⟨hv, h0⟩ | ⟨g, cap, cur, hv, hg, hh, hc, _⟩
  · refine ⟨kb, hkb, hkt, fun hne => absurd (List.length_eq_zero_iff.1 h0) hne, by omega⟩
  · simp only [Value.slice.injEq] at hv
    obtain ⟨rfl, -, rfl⟩ := hv
    refine ⟨g, (Array.getElem?_eq_some_iff.1 hh).1, by omega, fun hne => ?_, hc⟩
    obtain ⟨b, off, ha, _, hat⟩ := Own.own_at h hne
    simp only [Option.some.injEq, Addr.mk.injEq, and_true] at ha
    obtain ⟨rfl, rfl⟩ := ha
    exact ⟨0, rfl, hat⟩
theorem nd_at {os : List ByteArray} {N i : Nat} {xs : List Arg} (h : xs.map Arg.i = firsts os N) (hi : i < xs.length) : ow os xs[i].i = nd os N i := by
  unfold nd
  rw [← h]
  simp [List.getD_eq_getElem?_getD, List.getElem?_eq_getElem hi]
/-- What was read and taken of the first parts. -/
def Good (os ks ans : List ByteArray) (N : Nat) (token : Bool) (rows : List (List Itm)) (i : Nat) : Prop := ∀ j, j < i → rdR (ow ans j) token = some (rows.getD j []) ∧ rm os ks (nd os N j) (rows.getD j []) N = []
theorem good_snoc {os ks ans : List ByteArray} {N : Nat} {token : Bool} {rows : List (List Itm)} {its : List Itm} (h : Good os ks ans N token rows rows.length) (h1 : rdR (ow ans rows.length) token = some its) (h2 : rm os ks (nd os N rows.length) its N = []) : Good os ks ans N token (rows ++ [its]) (rows.length + 1) := by
  intro j hj
  by_cases e : j < rows.length
  · rw [getD_snoc e]; exact h j e
  · obtain rfl : j = rows.length := by omega
    rw [getD_last]; exact ⟨h1, h2⟩
theorem good_all {os ks ans : List ByteArray} {N : Nat} {token : Bool} {rows : List (List Itm)} (h : Good os ks ans N token rows rows.length) (h1 : rows.length = ans.length) (h2 : ans.length = (firsts os N).length) : Merges os ks N ans token rows :=
  ⟨h2, ⟨h1, fun j hj => rdR_reads (h j (by omega)).1⟩, fun p hp => (h p (by omega)).2⟩

set_option maxRecDepth 10000 in
set_option maxHeartbeats 4000000 in
theorem impl_any (b off cap : Nat) (l : List Nodes.D) (kb ko kc : Nat) (ks : List ByteArray) (ab ao ac : Nat) (ans : List ByteArray) (token : Bool) (w : World) (hb : b < w.heap.size) (hc : ∀ i, i < l.length → Nodes.At w b (off + i * 2) (l.getD i Nodes.zero)) (hl : l.length ≤ maxLen) (hs : ∀ x ∈ l, Nodes.Fits x)
    (hkb : kb < w.heap.size) (hkc : ∀ i, i < ks.length → w.cell? ⟨kb, ko + i, none⟩ = some (.string (ks.getD i ByteArray.empty))) (hkl : ks.length ≤ maxLen) (hks : ∀ s ∈ ks, s.size ≤ maxLen)
    (hab : ab < w.heap.size) (hac : ∀ i, i < ans.length → w.cell? ⟨ab, ao + i, none⟩ = some (.string (ans.getD i ByteArray.empty))) (hal : ans.length ≤ 1048576) (has : ∀ s ∈ ans, s.size ≤ 1048576) (hv : V2 w) :
    Calls Tryz.prog 11 #[.slice (some ⟨b, off, none⟩) l.length cap, .slice (some ⟨kb, ko, none⟩) ks.length kc, .slice (some ⟨ab, ao, none⟩) ans.length ac, .bool token] w fun e w' => e = .returned (mgW (outM l ks ans token)) ∧ Below w.heap.size w w' := by
  have hgn := NodesM.inodes_some b off cap l w hb hc hl hs
  have hgk : ∀ w1, Below w.heap.size w w1 → Calls Tryz.prog 22 #[.slice (some ⟨kb, ko, none⟩) ks.length kc, .int .i64 0, .int .i64 60] w1 fun e w' => e = .returned (.bool (kB ks)) ∧ Below w1.heap.size w1 w' := fun w1 hb1 => KeysI.keys_any kb ko kc ks 0 60 w1 (Nat.lt_of_lt_of_le hkb hb1.size) (fun i hi => (hb1.cell (p := ⟨kb, ko + i, none⟩) hkb).trans (hkc i hi)) hkl hks
  cases g1 : NodesM.gnB l
  · rw [outM_no (by simp [g1])]
    rw [g1] at hgn
    have HG := hide hgn
    clear hgn hgk hc hs hkc hks hac has g1 hv
    go_enter Tryz.func11, Tryz.ntmps11
    go_wp2_with fail
    refine (unhide HG).mono ?_
    rintro e w1 ⟨rfl, hb1⟩
    have HB := hide hb1
    clear hb1
    go_wp2
    go_ret2
    exact ⟨rfl, unhide HB⟩
  rw [g1] at hgn
  cases g2 : kB ks
  · rw [outM_no (by simp [g2])]
    rw [g2] at hgk
    have HG := hide hgn
    have HK := hide hgk
    clear hgn hgk hc hs hkc hks hac has g1 g2 hv
    go_enter Tryz.func11, Tryz.ntmps11
    go_wp2_with fail
    refine (unhide HG).mono ?_
    rintro e w1 ⟨rfl, hb1⟩
    have HB := hide hb1
    clear hb1
    go_wp2_with fail
    refine (unhide HK _ (unhide HB)).mono ?_
    rintro e w2 ⟨rfl, hb2⟩
    have HB2 := hide ((unhide HB).trans (hb2.mono (unhide HB).size))
    clear hb2
    go_wp2
    go_ret2
    exact ⟨rfl, unhide HB2⟩
  rw [g2] at hgk
  rw [outM_yes g1 g2]
  have HG := hide hgn
  have HK := hide hgk
  have HOW := hide (fun w1 (hb1 : Below w.heap.size w w1) => ownersOf_some b off cap l kb ko kc ks w1 (Nat.lt_of_lt_of_le hb hb1.size) (fun i hi => (hc i hi).below hb1 hb) g1 (Nat.lt_of_lt_of_le hkb hb1.size) (fun i hi => (hb1.cell (p := ⟨kb, ko + i, none⟩) hkb).trans (hkc i hi)) g2 (hv.vars.below hb1).tab)
  have hk60 := (kB_len g2).1
  have HAC := hide hac
  have HAS := hide has
  have HKC := hide hkc
  have HV := hide hv
  clear hgn hgk hc hs hkc hks hac has g1 g2 hv
  obtain ⟨os, hos⟩ : ∃ os, os = owners l ks := ⟨_, rfl⟩
  rw [← hos] at HOW ⊢
  clear hos
  have hfl := firsts_le os ks.length
  obtain ⟨R, hR⟩ : ∃ R, R = mgR os ks ks.length ans token := ⟨_, rfl⟩
  have HR := hide hR
  rw [← hR]
  clear hR
  go_enter Tryz.func11, Tryz.ntmps11
  go_wp2_with fail
  refine (unhide HG).mono ?_
  rintro e w1 ⟨rfl, hb1⟩
  have B1 := hide hb1
  clear hb1
  go_wp2_with fail
  refine (unhide HK _ (unhide B1)).mono ?_
  rintro e w2 ⟨rfl, hb2⟩
  have B2 := hide ((unhide B1).trans (hb2.mono (unhide B1).size))
  clear hb2
  go_wp2_with fail
  refine (unhide HOW _ (unhide B2)).mono ?_
  rintro e w3 ⟨g, rfl, hg3, hr3, hb3⟩
  have B3 := hide ((unhide B2).trans (hb3.mono (unhide B2).size))
  have R3 := hide hr3
  have hgl := hr3.lt
  clear hb3 hr3
  go_wp2_with fail
  refine (partsOf_out g ks.length w3).mono ?_
  rintro e w4 ⟨rfl, rfl⟩
  have B4 := hide ((unhide B3).alloc (unhide B3).size (.cells #[.slice (some ⟨g, 0, none⟩) ks.length ks.length] 24))
  have c4 : (w3.alloc (.cells #[.slice (some ⟨g, 0, none⟩) ks.length ks.length] 24)).cell? ⟨w3.heap.size, 0, none⟩ = some (.slice (some ⟨g, 0, none⟩) ks.length ks.length) := by rw [World.cell?_alloc_new]; rfl
  have HCL := hide (collect_some w3.heap.size g ks.length os _ hk60 c4 ((unhide R3).below (bel1 w3 _) hgl))
  clear c4
  go_wp2_with fail
  refine (unhide HCL).mono ?_
  rintro e w5 ⟨v5, xs, rfl, hxs, hown5, hmem5, hb5⟩
  obtain ⟨va, vc, rfl⟩ := OwnR.own_form hown5
  have B5 := hide ((unhide B4).trans (hb5.mono (unhide B4).size))
  have HXS := hide hxs
  have HO5 := hide (OwnR.own_le hown5 (Nat.zero_le _))
  have HM5 := hide hmem5
  have hxl : xs.length = (firsts os ks.length).length := by rw [← hxs, List.length_map]
  have hx60 : xs.length ≤ 60 := by omega
  have HXL := hide hxl
  clear hxl
  clear hown5 hmem5 hb5 hxs HCL R3 hgl hg3 B1 B2 B3 B4
  by_cases hlen : xs.length = ans.length
  case neg =>
    have hR0 : R = none := by rw [unhide HR]; exact mg_len (by have := unhide HXL; omega)
    have hne : ¬ (xs.length : Int) = (ans.length : Int) := by omega
    have hne2 : ((xs.length : Int) == (ans.length : Int)) = false := by simpa using hne
    go_wp2
    go_ret2
    exact ⟨by rw [hR0]; rfl, unhide B5⟩
  have HLA := hide hlen
  have hle1 : xs.length ≤ ans.length := by omega
  have hle2 : ans.length ≤ xs.length := by omega
  have hmk := fun w => run_make_row' (P := Tryz.prog) 79 33 (.slice none 0 0) 24 Tryz.underlying79 (by kernel_rfl) rfl .i64 .i64 ks.length (by omega) (by omega) w
  have RS0 : Hid (RowAt (w5.alloc (.cells (madeCells #[.slice none 0 0] ks.length) 33)) w5.heap.size 33 ks.length (fun _ => .slice none 0 0)) := RowAt.of_row ((rowIs_mades w5 #[.slice none 0 0] ks.length 33 (fun _ => .slice none 0 0) (fun i => by simp [Nat.mod_one])).congr (fun j _ => rfl))
  have hzw := (unhide B5).size
  have eqn : ((xs.length : Int) == (ans.length : Int)) = true := by simp [hlen]
  have eqm : ((xs.length : Int) != (ans.length : Int)) = false := by simp [hlen]
  clear hlen
  go_wp2_with fail
  clear hmk eqn eqm
  have BT : Hid (Below w5.heap.size w5 (w5.alloc (.cells (madeCells #[.slice none 0 0] ks.length) 33))) := bel1 w5 _
  go_loopw [39] (fun iv wr => ∃ (i : Nat) (rows : List (List Itm)) (F : Nat → Value), i ≤ xs.length ∧ rows.length = i ∧ iv = .int .i64 (i : Int) ∧ Hid (Good os ks ans ks.length token rows i) ∧ Hid (RowAt wr w5.heap.size 33 ks.length F) ∧ Hid (Sofar wr w5.heap.size os ks ks.length i rows F) ∧ Hid (Below w5.heap.size w5 wr)) (fun iv _ => xs.length - (intOf iv).toNat)
  case atStart => exact ⟨0, [], fun _ => .slice none 0 0, Nat.zero_le _, rfl, rfl, hide (fun j hj => absurd hj (by omega)), RS0, hide (sofar_zero _ _ _ _ _ _ (fun _ _ => rfl)), BT⟩
  case round =>
    obtain ⟨i, rows, F, hi, hri, rfl, hgood, hrow, hsof, hbw⟩ := hrel
    have BW := hide ((unhide B5).trans ((unhide hbw).mono (by omega)))
    by_cases hlt : i < xs.length
    · obtain ⟨pg, hva, -, hpgl, hpc⟩ := RowsW.own_cells (unhide HO5) (by omega)
      subst hva
      have cp : wr.cell? ⟨pg, i, none⟩ = some (avl os ks.length xs[i]) := ((unhide hbw).cell (p := ⟨pg, i, none⟩) hpgl).trans (hpc i _ hlt (by simp [List.getElem?_eq_getElem hlt]))
      have hM := unhide HM5 xs[i] (List.getElem_mem hlt)
      have hnd := nd_at (unhide HXS) hlt
      have hav : avl os ks.length xs[i] = .slice xs[i].a (places os ks.length (nd os ks.length i)).length xs[i].c := by unfold avl argL; rw [hnd]
      obtain ⟨hm1, -, hm3⟩ := hM
      have hm3' : w5.ownsRow 0 3 1 (.slice xs[i].a (places os ks.length (nd os ks.length i)).length xs[i].c) (places os ks.length (nd os ks.length i)).length (Ints.cells (nums (places os ks.length (nd os ks.length i)))) := by
        have := hm3
        unfold argL at this
        rw [hnd] at this
        exact this
      have hpos : 0 < (places os ks.length (nd os ks.length i)).length := by rw [← hnd]; exact List.length_pos_of_mem (places_mem.2 ⟨hm1, rfl⟩)
      obtain ⟨pb, hpa, -, hpbl, hpcell⟩ := RowsW.own_cells hm3' hpos
      have hPc : Hid (∀ q, q < (places os ks.length (nd os ks.length i)).length → wr.cell? ⟨pb, q, none⟩ = some (.int .i64 (((places os ks.length (nd os ks.length i)).getD q 0 : Nat) : Int))) := fun q hq => by
        refine ((unhide hbw).cell (p := ⟨pb, q, none⟩) hpbl).trans (hpcell q _ hq ?_)
        rw [Ints.cells_get _ _ (by rw [nums_len]; exact hq)]
        simp [Ints.ncell, nums, List.getD_eq_getElem?_getD, List.getElem?_eq_getElem hq]
      have hPn : Hid ((places os ks.length (nd os ks.length i)).Nodup) := List.nodup_range.filter _
      have hPN : Hid (∀ q, q < (places os ks.length (nd os ks.length i)).length → (places os ks.length (nd os ks.length i)).getD q 0 < ks.length) := fun q hq => by
        rw [getD_get hq]; exact (places_mem.1 (List.getElem_mem hq)).1
      have hPl := places_le os ks.length (nd os ks.length i)
      rw [hav, hpa] at cp
      have ca := ((unhide BW).cell (p := ⟨ab, ao + i, none⟩) hab).trans (unhide HAC i (by omega))
      have hsz : (ans.getD i ByteArray.empty).size ≤ 1048576 := unhide HAS _ (by rw [List.getD_eq_getElem?_getD, List.getElem?_eq_getElem (show i < ans.length by omega)]; exact List.getElem_mem _)
      have HRD := hide (Rd.impl_any (ans.getD i ByteArray.empty) token wr hsz ((unhide HV).below (unhide BW)))
      have HNO : Hid (rdR (ans.getD i ByteArray.empty) token = none → R = none) := fun h => by rw [unhide HR]; exact mg_unread (by omega) h
      have HLF : Hid (∀ L, rdR (ans.getD i ByteArray.empty) token = some L → rm os ks (nd os ks.length i) L ks.length ≠ [] → R = none) := fun L h1 h2 => by rw [unhide HR]; exact mg_left (by omega) h1 h2
      have HEQ : Hid (ow ans i = ans.getD i ByteArray.empty) := rfl
      have HRM : Hid (∀ its, rm os ks (nd os ks.length i) its ks.length = tk ks (places os ks.length (nd os ks.length i)) its) := fun _ => rfl
      have HSS := hide (fun w4 w6 g4 its F' h1 h2 h3 h4 h5 h6 => @sofar_step w4 w6 w5.heap.size g4 os ks ks.length rows its F F' h1 (by have := unhide HXL; omega) h2 h3 h4 h5 h6)
      rw [hri] at HSS
      generalize ans.getD i ByteArray.empty = s at ca hsz HRD HNO HLF HEQ
      generalize places os ks.length (nd os ks.length i) = P at cp hPc hPn hPN hPl hpos HRM HSS
      clear hnd hav hm1 hm3 hm3' hpa hpc hpcell
      have hz := (unhide hbw).size
      go_wp2_with fail
      refine (unhide HRD).mono ?_
      rintro e w6 ⟨v6, its, ok, rfl, hown6, hb6, hor⟩
      obtain ⟨a6, c6, rfl⟩ := OwnR.own_form hown6
      have B6 := hide ((unhide BW).trans (hb6.mono (unhide BW).size))
      have B56 := hide ((unhide hbw).trans (hb6.mono hz))
      rcases hor with ⟨rfl, hsome⟩ | ⟨rfl, rfl, hnone⟩
      case inr =>
        have hR0 := unhide HNO hnone
        clear hown6 hb6 hnone
        go_wp2
        go_ret2
        exact ⟨by rw [hR0]; rfl, unhide B6⟩
      have hl60 := (rdR_reads hsome).len
      have hrowl := (unhide hrow).lt
      have hkb6 : kb < w6.heap.size := Nat.lt_of_lt_of_le hkb (unhide B6).size
      obtain ⟨g6, hg6l, hg6n, hpit, hcc⟩ := pit_own hown6 hrowl hkb6 (by omega)
      have hrow6 := (unhide hrow).below hb6 hrowl
      have hsof6 := hide ((unhide hsof).block (fun b hb' _ => hb6.block b hb') hb6.size)
      have HSM := hide hsome
      have HTI := hide (takeItems_some w5.heap.size ks.length ks.length kb ko kc pb xs[i].c g6 c6 a6 ks P its F w6 hrow6 hk60 rfl hkb6 (by omega) (fun q hq => ((unhide B6).cell (p := ⟨kb, ko + q, none⟩) hkb).trans (unhide HKC q hq)) (Nat.lt_of_lt_of_le hpbl (unhide B56).size) (by omega) (fun q hq => (hb6.cell (p := ⟨pb, q, none⟩) (Nat.lt_of_lt_of_le hpbl hz)).trans (unhide hPc q hq)) (unhide hPn) (unhide hPN) (by omega) hg6l hg6n hpit hcc hl60)
      clear hown6 hb6 hrow6 hpit hsome hPc hPn hPN
      go_wp2_with fail
      refine (unhide HTI).mono ?_
      rintro e w7 ⟨F', rfl, hrow7, hg7, hdid⟩
      have B7 := hide ((unhide B6).grown hg7 (unhide B6).size (fun k e => by simp only [Option.some.injEq] at e; omega))
      have B57 := hide ((unhide B56).grown hg7 (unhide B56).size (fun k e => by simp only [Option.some.injEq] at e; omega))
      by_cases htk : tk ks P its = []
      · have htd : decide (tk ks P its = []) = true := decide_eq_true htk
        rw [htd]
        have HS7 := hide (unhide HSS w6 w7 g6 its F' (unhide hsof6) hdid hg6n hg6l (fun b hb' hne => hg7.block b hb' (fun e => hne (by simpa using e))) hg7.size)
        have HG7 : Hid (Good os ks ans ks.length token (rows ++ [its]) (i + 1)) := by
          have := good_snoc (its := its) (show Good os ks ans ks.length token rows rows.length by rw [hri]; exact unhide hgood) (by rw [hri, unhide HEQ]; exact unhide HSM) (by rw [hri, unhide HRM]; exact htk)
          rw [hri] at this
          exact this
        have HR7 := hide hrow7
        clear hdid hg7 htk htd hrow7 HTI
        go_wp2
        go_roundw
        case rel => exact ⟨i + 1, rows ++ [its], F', by omega, by simp [hri], by go_num, HG7, HR7, HS7, B57⟩
        case measure => simp [intOf]; omega
      · have htd : decide (tk ks P its = []) = false := decide_eq_false htk
        rw [htd]
        have hR0 := unhide HLF its (unhide HSM) (by rw [unhide HRM]; exact htk)
        clear hdid hg7 htk htd hrow7 HTI
        go_wp2
        go_ret2
        exact ⟨by rw [hR0]; rfl, unhide B7⟩
    · obtain rfl : i = xs.length := by omega
      have hM := good_all (show Good os ks ans ks.length token rows rows.length by rw [hri]; exact unhide hgood) (by rw [hri]; exact unhide HLA) (by rw [← unhide HLA]; exact unhide HXL)
      have hR0 : R = some (told token (outs os ks (rowOf os ks.length rows) ks.length) ++ lastS) := by rw [unhide HR]; exact mgR_some hM
      obtain ⟨ht1, ht2⟩ := outs_text (os := os) (ks := ks) (n := ks.length) hM.read hk60
      have hvt : vtR (outs os ks (rowOf os ks.length rows) ks.length) token = ⟨told token (outs os ks (rowOf os ks.length rows) ks.length) ++ lastS, true⟩ := by
        cases hq : vtR (outs os ks (rowOf os ks.length rows) ks.length) token with
        | mk s ok => rw [hq] at ht1 ht2; dsimp only at ht1 ht2; rw [ht1, ht2]
      have hso : sofar (fun k => em os ks (rowOf os ks.length rows (ow os k)) k) ks.length = outs os ks (rowOf os ks.length rows) ks.length := outs_flat _ _ _ _
      have hfit : ∀ x ∈ outs os ks (rowOf os ks.length rows) ks.length, Fits x := fun x hx => fits_good (outs_ok hM.read x hx).1
      have hol : (outs os ks (rowOf os ks.length rows) ks.length).length ≤ 60 := Nat.le_trans (outs_len _ _ _ _) hk60
      have HCC := hide (concat_some w5.heap.size ks.length ks.length F (fun k => em os ks (rowOf os ks.length rows (ow os k)) k) wr (unhide hrow) hk60 (fun k hk => sofar_all (by rw [← unhide HXL]; exact unhide hsof) k hk))
      rw [hso] at HCC
      generalize outs os ks (rowOf os ks.length rows) ks.length = O at hR0 hvt hfit hol HCC
      have HFT := hide hfit
      have HVT := hide hvt
      clear hM ht1 ht2 hso hfit hvt hgood hsof hrow hlt
      go_wp2_with fail
      refine (unhide HCC).mono ?_
      rintro e w6 ⟨v6, rfl, hown6, hb6⟩
      obtain ⟨a6, c6, rfl⟩ := OwnR.own_form hown6
      have B6 := hide ((unhide BW).trans (hb6.mono (unhide BW).size))
      have HVX := hide (Vals.impl_any a6 c6 O token w6 (Own.own_at hown6) (by omega) (unhide HFT) ((unhide HV).vars.below (unhide B6)).tab)
      rw [unhide HVT] at HVX
      clear hown6 hb6
      unfold vtW at HVX
      go_wp2_with fail
      refine (unhide HVX).mono ?_
      rintro e w7 ⟨rfl, hb7⟩
      have B7 := hide ((unhide B6).trans (hb7.mono (unhide B6).size))
      clear hb7
      go_wp2
      go_ret2
      exact ⟨by rw [hR0]; rfl, unhide B7⟩
end Merge
end Go.Proofs.YtghckjmpcokhcaaGreatDoor
