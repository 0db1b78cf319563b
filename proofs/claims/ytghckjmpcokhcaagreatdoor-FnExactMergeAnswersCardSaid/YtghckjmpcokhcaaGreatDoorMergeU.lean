/-
  The model's MergeAnswers.
-/
import Derived.Test.YtghckjmpcokhcaaGreatDoorMergeW
import Derived.Test.YtghckjmpcokhcaaGreatDoorMergeY
import Derived.Test.YtghckjmpcokhcaaGreatDoorRdS
import Derived.Test.YtghckjmpcokhcaaGreatDoorValY
import Derived.Test.YtghckjmpcokhcaaGreatDoorNodesZ
import Derived.Test.YtghckjmpcokhcaaGreatDoorKeyZ
import Derived.Test.YtghckjmpcokhcaaGreatDoorMergeB
import Derived.Laws.AppendOwn
namespace Go.Proofs.YtghckjmpcokhcaaGreatDoor
namespace Merge
open Go.RowKit Base Items Split Marks KeysS Ring Parts Rd Vals
set_option linter.unusedVariables false

def sv (rows : List (List Itm)) (f : Nat → Option Addr × Nat) (i : Nat) : Value := .slice (f i).1 (rows.getD i []).length (f i).2
def svs (rows : List (List Itm)) (f : Nat → Option Addr × Nat) : List Value := (List.range rows.length).map (sv rows f)
/-- The rows that were read so far. -/
structure Rws (w : World) (B : Nat) (v : Value) (rows : List (List Itm)) (f : Nat → Option Addr × Nat) : Prop where
  own : w.ownsRow B 33 1 v rows.length (svs rows f)
  lie : ∀ i, i < rows.length → w.ownsRow 0 35 5 (sv rows f i) (rows.getD i []).length (Own.flat (rows.getD i [])) ∧ (rows.getD i []).length ≤ 60
theorem Rws.below {w w' : World} {B : Nat} {v : Value} {rows : List (List Itm)} {f : Nat → Option Addr × Nat} (h : Rws w B v rows f) (hb : Below w.heap.size w w') : Rws w' B v rows f :=
  ⟨OwnR.own_below h.own hb (Nat.le_refl _), fun i hi => ⟨OwnR.own_below (h.lie i hi).1 hb (Nat.le_refl _), (h.lie i hi).2⟩⟩
theorem rws_nil (w : World) (B : Nat) : Rws w B (.slice none 0 0) [] (fun _ => (none, 0)) := ⟨World.ownsRow_nil _ _ _ _, fun i hi => absurd hi (by simp)⟩
def updF (f : Nat → Option Addr × Nat) (n : Nat) (x : Option Addr × Nat) (i : Nat) : Option Addr × Nat := if i = n then x else f i
theorem sv_old {rows : List (List Itm)} {f : Nat → Option Addr × Nat} {its : List Itm} {x : Option Addr × Nat} {i : Nat} (h : i < rows.length) : sv (rows ++ [its]) (updF f rows.length x) i = sv rows f i := by
  unfold sv updF
  rw [if_neg (by omega)]
  simp [List.getD_eq_getElem?_getD, List.getElem?_append_left h]
theorem sv_new {rows : List (List Itm)} {f : Nat → Option Addr × Nat} {its : List Itm} {x : Option Addr × Nat} : sv (rows ++ [its]) (updF f rows.length x) rows.length = .slice x.1 its.length x.2 := by
  unfold sv updF
  rw [if_pos rfl]
  simp [List.getD_eq_getElem?_getD]
theorem svs_snoc {rows : List (List Itm)} {f : Nat → Option Addr × Nat} {its : List Itm} {x : Option Addr × Nat} : svs (rows ++ [its]) (updF f rows.length x) = svs rows f ++ [.slice x.1 its.length x.2] := by
  unfold svs
  rw [List.length_append]
  show (List.range (rows.length + 1)).map _ = _
  rw [List.range_succ, List.map_append, List.map_singleton, sv_new]
  congr 1
  exact List.map_congr_left (fun i hi => sv_old (List.mem_range.1 hi))
theorem rws_snoc {w w1 w2 : World} {B c : Nat} {v v' : Value} {a : Option Addr} {rows : List (List Itm)} {its : List Itm} {f : Nat → Option Addr × Nat} {o : Obj} (h : Rws w B v rows f) (hb : Below w.heap.size w w1) (hi : w1.ownsRow w.heap.size 35 5 (.slice a its.length c) its.length (Own.flat its)) (hl : its.length ≤ 60)
    (h2 : w2.ownsRow B 33 1 v' (rows.length + 1) (svs rows f ++ [.slice a its.length c])) (hg : (w1.alloc o).grownBy w2 v.ownBlock) : Rws w2 B v' (rows ++ [its]) (updF f rows.length (a, c)) := by
  have h1 := h.below (hb.alloc hb.size o)
  have ht : ∀ k, v.ownBlock = some k → ∃ c t, (w1.alloc o).heap[k]? = some (.cells c t (0, 0)) ∧ t ≠ 35 := fun k hk => by
    obtain ⟨_, c, hc⟩ := RowsW.own_type h1.own k hk
    exact ⟨c, _, hc, by decide⟩
  refine ⟨by rw [svs_snoc, List.length_append]; exact h2, fun i hi' => ?_⟩
  by_cases e : i < rows.length
  · rw [sv_old e]
    have e2 : (rows ++ [its]).getD i [] = rows.getD i [] := by simp [List.getD_eq_getElem?_getD, List.getElem?_append_left e]
    rw [e2]
    exact ⟨RowsW.own_types (h1.lie i e).1 hg ht, (h1.lie i e).2⟩
  · obtain rfl : i = rows.length := by simp at hi'; omega
    rw [sv_new]
    have e2 : (rows ++ [its]).getD rows.length [] = its := by simp [List.getD_eq_getElem?_getD]
    rw [e2]
    exact ⟨RowsW.own_types (OwnR.own_le (hi.alloc o) (Nat.zero_le _)) hg ht, hl⟩
theorem rws_at {w : World} {B c : Nat} {a : Option Addr} {rows : List (List Itm)} {f : Nat → Option Addr × Nat} (h : Rws w B (.slice a rows.length c) rows f) : RowsAt w a rows f := by
  intro h0
  obtain ⟨g, ha, _, hl, hc⟩ := RowsW.own_cells h.own h0
  refine ⟨g, ha, hl, fun i hi => ⟨hc i _ hi (by simp [svs, hi, sv]), Own.own_at (h.lie i hi).1, (h.lie i hi).2⟩⟩
theorem info_row : ∃ i, Tryz.prog.info? 33 = some i ∧ i.zero = some (.slice none 0 0) ∧ i.size = 1 ∧ i.bytes = 24 := by
  have h : (Tryz.prog.info? 33).map (fun i => (i.zero, i.size, i.bytes)) = some (some (.slice none 0 0), 1, 24) := by kernel_rfl
  obtain ⟨i, hi, hz⟩ := Option.map_eq_some_iff.1 h
  simp only [Prod.mk.injEq] at hz
  exact ⟨i, hi, hz.1, hz.2.1, hz.2.2⟩

set_option maxRecDepth 10000 in
set_option maxHeartbeats 4000000 in
theorem spec_any (b off cap : Nat) (l : List Nodes.D) (kb ko kc : Nat) (ks : List ByteArray) (ab ao ac : Nat) (ans : List ByteArray) (token : Bool) (w : World) (hb : b < w.heap.size) (hc : ∀ i, i < l.length → Nodes.At w b (off + i * 2) (l.getD i Nodes.zero)) (hl : l.length ≤ maxLen) (hs : ∀ x ∈ l, Nodes.Fits x)
    (hkb : kb < w.heap.size) (hkc : ∀ i, i < ks.length → w.cell? ⟨kb, ko + i, none⟩ = some (.string (ks.getD i ByteArray.empty))) (hkl : ks.length ≤ maxLen) (hks : ∀ s ∈ ks, s.size ≤ maxLen)
    (hab : ab < w.heap.size) (hac : ∀ i, i < ans.length → w.cell? ⟨ab, ao + i, none⟩ = some (.string (ans.getD i ByteArray.empty))) (hal : ans.length ≤ 1048576) (has : ∀ s ∈ ans, s.size ≤ 1048576) :
    Calls Tryz.prog 14 #[.slice (some ⟨b, off, none⟩) l.length cap, .slice (some ⟨kb, ko, none⟩) ks.length kc, .slice (some ⟨ab, ao, none⟩) ans.length ac, .bool token] w fun e w' => e = .returned (mgW (outM l ks ans token)) ∧ Below w.heap.size w w' := by
  have hgn := NodesM.nodes_some b off cap l w hb hc hl hs
  have hgk := fun w1 (hb1 : Below w.heap.size w w1) => mkeys_any kb ko kc ks w1 (Nat.lt_of_lt_of_le hkb hb1.size) (fun i hi => (hb1.cell (p := ⟨kb, ko + i, none⟩) hkb).trans (hkc i hi)) hkl hks
  cases g1 : NodesM.gnB l
  · rw [outM_no (by simp [g1])]
    rw [g1] at hgn
    have HG := hide hgn
    clear hgn hgk hc hs hkc hks hac has g1
    go_enter Tryz.func14, Tryz.ntmps14
    go_wp2_with fail
    refine (unhide HG).mono ?_
    rintro e w1 ⟨rfl, hb1⟩
    have HB := hide hb1
    clear hb1
    go_wp2
    go_ret2
    exact ⟨rfl, unhide HB⟩
  rw [g1] at hgn
  cases g2 : kB ks
  · rw [outM_no (by simp [g2])]
    rw [g2] at hgk
    have HG := hide hgn
    have HK := hide hgk
    clear hgn hgk hc hs hkc hks hac has g1 g2
    go_enter Tryz.func14, Tryz.ntmps14
    go_wp2_with fail
    refine (unhide HG).mono ?_
    rintro e w1 ⟨rfl, hb1⟩
    have HB := hide hb1
    clear hb1
    go_wp2_with fail
    refine (unhide HK _ (unhide HB)).mono ?_
    rintro e w2 ⟨rfl, hw2⟩
    subst hw2
    go_wp2
    go_ret2
    exact ⟨rfl, unhide HB⟩
  rw [g2] at hgk
  rw [outM_yes g1 g2]
  have HG := hide hgn
  have HK := hide hgk
  have HSP := hide (fun w1 (hb1 : Below w.heap.size w w1) => l6Split_some b off cap l kb ko kc ks w1 (Nat.lt_of_lt_of_le hb hb1.size) (fun i hi => (hc i hi).below hb1 hb) g1 (Nat.lt_of_lt_of_le hkb hb1.size) (fun i hi => (hb1.cell (p := ⟨kb, ko + i, none⟩) hkb).trans (hkc i hi)) g2)
  have HMG := hide (fun ra rcap rows f w1 (hb1 : Below w.heap.size w w1) hrl hr => l6Merge_some b off cap l kb ko kc ks ra rcap rows f w1 (Nat.lt_of_lt_of_le hb hb1.size) (fun i hi => (hc i hi).below hb1 hb) g1 (Nat.lt_of_lt_of_le hkb hb1.size) (fun i hi => (hb1.cell (p := ⟨kb, ko + i, none⟩) hkb).trans (hkc i hi)) g2 hrl hr)
  have hk60 := (kB_len g2).1
  have HAC := hide hac
  have HAS := hide has
  obtain ⟨i0, hi0, hz0, hz1, hz2⟩ := info_row
  have HI := hide hi0
  have HZ0 := hide hz0
  have HZ1 := hide hz1
  have HZ2 := hide hz2
  clear hi0 hz0 hz1 hz2 hgn hgk hc hs hkc hks hac has g1 g2
  obtain ⟨os, hos⟩ : ∃ os, os = owners l ks := ⟨_, rfl⟩
  rw [← hos] at HSP HMG ⊢
  clear hos
  have hfl := firsts_le os ks.length
  by_cases hlen : ans.length = (firsts os ks.length).length
  case neg =>
    rw [mg_len hlen]
    clear HMG
    go_enter Tryz.func14, Tryz.ntmps14
    go_wp2_with fail
    refine (unhide HG).mono ?_
    rintro e w1 ⟨rfl, hb1⟩
    have HB := hide hb1
    clear hb1
    go_wp2_with fail
    refine (unhide HK _ (unhide HB)).mono ?_
    rintro e w2 ⟨rfl, hw2⟩
    subst hw2
    go_wp2_with fail
    refine (unhide HSP _ (unhide HB)).mono ?_
    rintro e w3 ⟨v, N, p, rfl, hout, htl, hb3⟩
    obtain ⟨hN, _⟩ := tells_nd htl
    obtain ⟨va, vc, rfl⟩ := hout.form
    have HB3 := hide ((unhide HB).trans (hb3.mono (unhide HB).size))
    have hne : ¬ (ans.length : Int) = (N : Int) := by omega
    have hne2 : ((ans.length : Int) == (N : Int)) = false := by simpa using hne
    clear hout htl hb3 hN
    go_wp2
    go_ret2
    exact ⟨rfl, unhide HB3⟩
  have hal60 : ans.length ≤ 60 := by omega
  have HLEN := hide hlen
  clear hlen
  go_enter Tryz.func14, Tryz.ntmps14
  go_wp2_with fail
  refine (unhide HG).mono ?_
  rintro e w1 ⟨rfl, hb1⟩
  have HB := hide hb1
  clear hb1
  go_wp2_with fail
  refine (unhide HK _ (unhide HB)).mono ?_
  rintro e w2 ⟨rfl, hw2⟩
  subst hw2
  go_wp2_with fail
  refine (unhide HSP _ (unhide HB)).mono ?_
  rintro e w3 ⟨v, N, p, rfl, hout, htl, hb3⟩
  obtain ⟨hN, _⟩ := tells_nd htl
  obtain ⟨va, vc, rfl⟩ := hout.form
  have HB3 := hide ((unhide HB).trans (hb3.mono (unhide HB).size))
  obtain rfl : N = ans.length := by rw [hN]; exact (unhide HLEN).symm
  have hzw : w.heap.size ≤ w3.heap.size := (unhide HB3).size
  clear hout htl hb3 hN HB HSP
  go_wp2_with fail
  go_loopw [10, 36] (fun rv iv wr => ∃ (i : Nat) (rows : List (List Itm)) (f : Nat → Option Addr × Nat) (ra : Option Addr) (rc : Nat), i ≤ ans.length ∧ rows.length = i ∧ iv = .int .i64 (i : Int) ∧ rv = .slice ra i rc ∧ Hid (∀ j, j < i → rdR (ow ans j) token = some (rows.getD j [])) ∧ Hid (Rws wr w.heap.size (.slice ra i rc) rows f) ∧ Hid (Below w.heap.size w wr)) (fun _ iv _ => ans.length - (intOf iv).toNat)
  case atStart => exact ⟨0, [], fun _ => (none, 0), none, 0, Nat.zero_le _, rfl, rfl, rfl, hide (fun j hj => absurd hj (by omega)), hide (rws_nil _ _), HB3⟩
  case round =>
    obtain ⟨i, rows, f, ra, rc, hi, hri, rfl, rfl, hrd, hrw, hbw⟩ := hrel
    by_cases hlt : i < ans.length
    · have ca := ((unhide hbw).cell (p := ⟨ab, ao + i, none⟩) hab).trans (unhide HAC i hlt)
      have hsz : (ans.getD i ByteArray.empty).size ≤ 1048576 := unhide HAS _ (by rw [List.getD_eq_getElem?_getD, List.getElem?_eq_getElem hlt]; exact List.getElem_mem _)
      have HRD := hide (l6Read_any (ans.getD i ByteArray.empty) token wr hsz)
      have HNO : Hid (rdR (ans.getD i ByteArray.empty) token = none → mgR os ks ks.length ans token = none) := fun h => mg_unread hlt h
      have HEQ : Hid (ow ans i = ans.getD i ByteArray.empty) := rfl
      generalize ans.getD i ByteArray.empty = s at ca hsz HRD HNO HEQ
      go_wp2_with fail
      refine (unhide HRD).mono ?_
      rintro e w4 ⟨v4, its, ok, rfl, hown, hb4, hor⟩
      obtain ⟨a4, c4, rfl⟩ := OwnR.own_form hown
      rcases hor with ⟨rfl, hsome⟩ | ⟨rfl, rfl, hnone⟩
      · have hl60 := (rdR_reads hsome).len
        have HSM := hide hsome
        have HOW := hide hown
        have HB4 := hide hb4
        have OR := hide ((unhide hrw).below ((unhide HB4).alloc (unhide HB4).size (.cells #[.slice a4 its.length c4] 33))).own
        have hz4 : w.heap.size ≤ w4.heap.size := Nat.le_trans (unhide hbw).size hb4.size
        clear hown hb4 hsome ca
        rw [hri] at OR
        go_wp2_with (at_builtin; go_loud (refine wpList_append_own _ rfl _ _ 79 rfl w.heap.size 33 i0 _ 1 24 Tryz.underlying79 (unhide HI) (unhide HZ0) (unhide HZ1) (unhide HZ2) rfl (by decide) _ _ _ rfl (unhide OR) ⟨w4.heap.size, 0, none⟩ 1 1 [.slice a4 its.length c4] rfl rfl (RowsW.news_val w4 _ _) RowsW.one_slice (by unfold maxLen; omega) (by omega) (by simp; omega) ?_))
        intro v5 w5 h5 hg5 _
        obtain ⟨a5, c5, rfl⟩ := OwnR.own_form h5
        have HN := hide (rws_snoc (unhide hrw) (unhide HB4) (unhide HOW) hl60 (by rw [hri]; exact h5) hg5)
        have B4 := (unhide hbw).trans ((unhide HB4).mono (unhide hbw).size)
        have HB5 := hide ((B4.alloc B4.size _).grown hg5 (Nat.le_trans B4.size (by simp)) (fun k e => (OwnR.own_block (unhide hrw).own k (by rw [← e]))))
        have HRN : Hid (∀ j, j < i + 1 → rdR (ow ans j) token = some ((rows ++ [its]).getD j [])) := fun j hj => by
          by_cases e : j < i
          · rw [unhide hrd j e]; congr 1; simp [List.getD_eq_getElem?_getD, List.getElem?_append_left (show j < rows.length by omega)]
          · obtain rfl : j = i := by omega
            rw [unhide HEQ, unhide HSM, ← hri]; simp [List.getD_eq_getElem?_getD]
        clear h5 hg5 B4 OR HOW HB4
        go_wp2
        go_roundw
        case rel => exact ⟨i + 1, rows ++ [its], updF f rows.length (a4, c4), a5, c5, by omega, by simp [hri], by go_num, rfl, HRN, HN, HB5⟩
        case measure => simp [intOf]; omega
      · have HR : Hid (mgR os ks ks.length ans token = none) := unhide HNO hnone
        have HB4 := hide ((unhide hbw).trans (hb4.mono (unhide hbw).size))
        clear hown hb4 hnone ca
        obtain ⟨R, hR⟩ : ∃ R, R = mgR os ks ks.length ans token := ⟨_, rfl⟩
        go_wp2
        go_ret2
        exact ⟨by rw [unhide HR]; rfl, unhide HB4⟩
    · obtain rfl : i = ans.length := by omega
      have HME := hide (unhide HMG ra rc rows f wr (unhide hbw) (by rw [hri]; exact unhide HLEN) (rws_at (by rw [hri]; exact unhide hrw)))
      rw [hri] at HME
      have HAR : Hid (AllRead token ans rows) := ⟨hri, fun j hj => rdR_reads (unhide hrd j hj)⟩
      go_wp2_with fail
      refine (unhide HME).mono ?_
      rintro e w4 ⟨v4, O, ok, rfl, hown, hb4, hor⟩
      obtain ⟨a4, c4, rfl⟩ := OwnR.own_form hown
      have HB4 := hide ((unhide hbw).trans (hb4.mono (unhide hbw).size))
      rcases hor with ⟨rfl, hO, hall⟩ | ⟨rfl, rfl, hno⟩
      · have HR : Hid (mgR os ks ks.length ans token = some (told token O ++ lastS)) := by rw [hO]; exact mgR_some ⟨unhide HLEN, unhide HAR, hall⟩
        have hol : O.length ≤ 60 := by rw [hO]; exact Nat.le_trans (outs_len _ _ _ _) hk60
        have HTX := hide (l6Text_any a4 c4 O token w4 (Own.own_at hown) hol (List.all_eq_true.2 (fun x hx => (outs_ok (os := os) (ks := ks) (n := ks.length) (unhide HAR) x (by rw [← hO]; exact hx)).1)))
        clear hown hb4 hO hall
        go_wp2_with fail
        refine (unhide HTX).mono ?_
        rintro e w5 ⟨rfl, hb5⟩
        have HB5 := hide ((unhide HB4).trans (hb5.mono (unhide HB4).size))
        clear hb5
        go_wp2
        go_ret2
        exact ⟨by rw [unhide HR]; rfl, unhide HB5⟩
      · have HR : Hid (mgR os ks ks.length ans token = none) := mgR_none (fun r hm => hno (by rw [read_unique (unhide HAR) hm.read]; exact hm.all))
        clear hown hb4 hno
        go_wp2
        go_ret2
        exact ⟨by rw [unhide HR]; rfl, unhide HB4⟩
end Merge
end Go.Proofs.YtghckjmpcokhcaaGreatDoor
