/-
  SplitKeys of any slices, also such as hold nothing; MergeAnswers of the answers that FnMerged makes.
-/
import Derived.Test.YtghckjmpcokhcaaGreatDoorMergeNZ
import Derived.Test.YtghckjmpcokhcaaGreatDoorMgP
import Derived.Test.YtghckjmpcokhcaaGreatDoorStrY
import Derived.BigQuiet
import Derived.Deep.QuietTactic
namespace Go.Proofs.YtghckjmpcokhcaaGreatDoor
namespace Merge
open Go.RowKit Base Items Split Marks KeysS Ring Parts Rd Vals
set_option linter.unusedVariables false

set_option maxRecDepth 10000 in
set_option maxHeartbeats 1000000 in
theorem split_bad (b : Option Addr) (n cap : Nat) (ka : Option Addr) (m kc : Nat) (w : World) (h : ∀ w1, Below w.heap.size w w1 → Calls Tryz.prog 21 #[.slice b n cap] w1 fun e w' => e = .returned (.bool false) ∧ Below w1.heap.size w1 w') :
    Calls Tryz.prog 6 #[.slice b n cap, .slice ka m kc] w fun e w' => e = .returned (.tuple #[.slice none 0 0, .bool false]) ∧ Below w.heap.size w w' := by
  have HG := hide h
  clear h
  go_enter Tryz.func6, Tryz.ntmps6
  go_wp2_with fail
  refine (unhide HG _ (bel1 w _)).mono ?_
  rintro e w1 ⟨rfl, hb1⟩
  have B1 := hide ((bel1 w _).trans (hb1.mono (by simp)))
  clear hb1
  go_wp2
  go_ret2
  exact ⟨rfl, unhide B1⟩
set_option maxRecDepth 10000 in
set_option maxHeartbeats 1000000 in
theorem ssplit_bad (b : Option Addr) (n cap : Nat) (ka : Option Addr) (m kc : Nat) (w : World) (h : Calls Tryz.prog 26 #[.slice b n cap] w fun e w' => e = .returned (.bool false) ∧ Below w.heap.size w w') :
    Calls Tryz.prog 7 #[.slice b n cap, .slice ka m kc] w fun e w' => e = .returned (.tuple #[.slice none 0 0, .bool false]) ∧ Below w.heap.size w w' := by
  have HG := hide h
  clear h
  go_enter Tryz.func7, Tryz.ntmps7
  go_wp2_with fail
  refine (unhide HG).mono ?_
  rintro e w1 ⟨rfl, hb1⟩
  have B1 := hide hb1
  clear hb1
  go_wp2
  go_ret2
  exact ⟨rfl, unhide B1⟩
set_option maxRecDepth 10000 in
set_option maxHeartbeats 1000000 in
theorem ssplit_nil (b : Option Addr) (n cap : Nat) (ka : Option Addr) (kc : Nat) (w : World) (h : Calls Tryz.prog 26 #[.slice b n cap] w fun e w' => e = .returned (.bool true) ∧ Below w.heap.size w w') :
    Calls Tryz.prog 7 #[.slice b n cap, .slice ka 0 kc] w fun e w' => e = .returned (.tuple #[.slice none 0 0, .bool true]) ∧ Below w.heap.size w w' := by
  have HG := hide h
  have HK := hide (skeys_nil ka kc)
  have HL := hide (l6Split_nil b n cap ka kc)
  clear h
  go_enter Tryz.func7, Tryz.ntmps7
  go_wp2_with fail
  refine (unhide HG).mono ?_
  rintro e w1 ⟨rfl, hb1⟩
  have B1 := hide hb1
  clear hb1
  go_wp2_with fail
  refine (unhide HK _).mono ?_
  rintro e w2 ⟨rfl, hb2⟩
  have B2 := hide ((unhide B1).trans (hb2.mono (unhide B1).size))
  clear hb2
  go_wp2_with fail
  refine (unhide HL _).mono ?_
  rintro e w3 ⟨rfl, hb3⟩
  have B3 := hide ((unhide B2).trans (hb3.mono (unhide B2).size))
  clear hb3
  go_wp2
  go_ret2
  exact ⟨rfl, unhide B3⟩
theorem ends_no {l : List Nodes.D} {ks : List ByteArray} {w w' : World} {e : Ending} (h : NodesM.gnB l = false) (he : e = .returned (.tuple #[.slice none 0 0, .bool false])) (hb : Below w.heap.size w w') : Split.Ends l ks w e w' := by
  obtain ⟨e1, e2⟩ := out_no (ks := ks) (.inl h)
  exact ⟨_, 0, fun _ => ⟨ByteArray.empty, 0, 0, []⟩, by rw [he, e1], Out.nil _ _ _, by rw [e2]; exact tells_nil _, hb⟩
theorem ends_nil {l : List Nodes.D} {w w' : World} {e : Ending} (h : NodesM.gnB l = true) (he : e = .returned (.tuple #[.slice none 0 0, .bool true])) (hb : Below w.heap.size w w') : Split.Ends l [] w e w' := by
  obtain ⟨e1, e2⟩ := out_yes (ks := []) h kB_nil
  exact ⟨_, 0, fun _ => ⟨ByteArray.empty, 0, 0, []⟩, by rw [he, e1], Out.nil _ _ _, by rw [e2]; exact tells_nil _, hb⟩
theorem split_opt (b : Option Addr) (cap : Nat) (l : List Nodes.D) (ka : Option Addr) (kc : Nat) (ks : List ByteArray) (w : World) (hc : Nodes.LAt w b l) (hl : l.length ≤ maxLen) (hs : ∀ x ∈ l, Nodes.Fits x) (hck : StrsAt w ka ks) (hkl : ks.length ≤ maxLen) (hks : ∀ s ∈ ks, s.size ≤ maxLen) (hv : Vars w) :
    Calls Tryz.prog 6 #[.slice b l.length cap, .slice ka ks.length kc] w (Split.Ends l ks w) := by
  by_cases h0 : l = []
  · subst h0
    exact (split_bad b 0 cap ka ks.length kc w (fun w1 _ => inodes_nil b cap w1)).mono (fun e w' h => ends_no (by decide) h.1 h.2)
  · obtain ⟨nb, no, rfl, hnb, hnc⟩ := hc h0
    by_cases h1 : ks = []
    · subst h1
      cases hg : NodesM.gnB l
      · exact (split_bad _ l.length cap ka 0 kc w (fun w1 hb1 => by
          have := NodesM.inodes_some nb no cap l w1 (Nat.lt_of_lt_of_le hnb hb1.size) (fun i hi => (hnc i hi).below hb1 hnb) hl hs
          rw [hg] at this; exact this)).mono (fun e w' h => ends_no hg h.1 h.2)
      · exact (callsIn_wide.1 (split_nil nb no cap l ka kc w hnb hnc hl hs hg hv)).mono (fun e w' h => ends_nil hg h.1 h.2)
    · obtain ⟨kb, ko, rfl, hkb, hkc⟩ := hck h1
      exact Split.impl_any nb no cap l kb ko kc ks w hnb hnc hl hs hkb hkc hkl hks hv
theorem ssplit_opt (b : Option Addr) (cap : Nat) (l : List Nodes.D) (ka : Option Addr) (kc : Nat) (ks : List ByteArray) (w : World) (hc : Nodes.LAt w b l) (hl : l.length ≤ maxLen) (hs : ∀ x ∈ l, Nodes.Fits x) (hck : StrsAt w ka ks) (hkl : ks.length ≤ maxLen) (hks : ∀ s ∈ ks, s.size ≤ maxLen) :
    Calls Tryz.prog 7 #[.slice b l.length cap, .slice ka ks.length kc] w (Split.Ends l ks w) := by
  by_cases h0 : l = []
  · subst h0
    exact (ssplit_bad b 0 cap ka ks.length kc w (snodes_nil b cap w)).mono (fun e w' h => ends_no (by decide) h.1 h.2)
  · obtain ⟨nb, no, rfl, hnb, hnc⟩ := hc h0
    have hgn := NodesM.nodes_some nb no cap l w hnb hnc hl hs
    by_cases h1 : ks = []
    · subst h1
      cases hg : NodesM.gnB l
      · rw [hg] at hgn
        exact (ssplit_bad _ l.length cap ka 0 kc w hgn).mono (fun e w' h => ends_no hg h.1 h.2)
      · rw [hg] at hgn
        exact (ssplit_nil _ l.length cap ka kc w hgn).mono (fun e w' h => ends_nil hg h.1 h.2)
    · obtain ⟨kb, ko, rfl, hkb, hkc⟩ := hck h1
      exact Split.spec_any nb no cap l kb ko kc ks w hnb hnc hl hs hkb hkc hkl hks
theorem firsts_pos {os ks : List ByteArray} (h : ks ≠ []) : 0 < (firsts os ks.length).length := by
  have hl : 0 < ks.length := by cases ks with | nil => exact absurd rfl h | cons x r => simp
  obtain ⟨p, hp, _⟩ := nd_ex (os := os) hl
  omega
/-- MergeAnswers of what the parts told. -/
theorem merge_opt (b : Option Addr) (cap : Nat) (l : List Nodes.D) (ka : Option Addr) (kc : Nat) (ks : List ByteArray) (aa : Option Addr) (ac : Nat) (w : World) (hc : Nodes.LAt w b l) (hl : l.length ≤ maxLen) (hs : ∀ x ∈ l, Nodes.Fits x) (hck : StrsAt w ka ks) (hkl : ks.length ≤ maxLen) (hks : ∀ s ∈ ks, s.size ≤ maxLen)
    (hg : NodesM.gnB l = true) (hk : kB ks = true) (hca : StrsAt w aa (ansE (owners l ks) ks ks.length)) (hal : ∀ s ∈ ansE (owners l ks) ks ks.length, s.size ≤ 1048576) (hv : V2 w) :
    Calls Tryz.prog 11 #[.slice b l.length cap, .slice ka ks.length kc, .slice aa (ansE (owners l ks) ks ks.length).length ac, .bool true] w fun e w' => e = .returned (.tuple #[.string (told true (evL ks) ++ lastS), .bool true]) ∧ Below w.heap.size w w' := by
  have hl0 : l ≠ [] := fun e => by rw [e] at hg; exact absurd hg (by decide)
  obtain ⟨nb, no, rfl, hnb, hnc⟩ := hc hl0
  by_cases h1 : ks = []
  · subst h1
    exact merge_nil nb no cap l ka 0 kc (Nat.le_refl _) aa ac true w hnb hnc hl hs hg hv
  · obtain ⟨kb, ko, rfl, hkb, hkc⟩ := hck h1
    have hpos := firsts_pos (os := owners l ks) h1
    have hlen : (ansE (owners l ks) ks ks.length).length = (firsts (owners l ks) ks.length).length := by simp [ansE]
    obtain ⟨ab, ao, rfl, hab, hac⟩ := hca (fun e => by rw [e] at hlen; simp at hlen; omega)
    have hk60 := kB_len hk
    have h := Merge.impl_any nb no cap l kb ko kc ks ab ao ac (ansE (owners l ks) ks ks.length) true w hnb hnc hl hs hkb hkc hkl hks hab hac (by rw [hlen]; have := firsts_le (owners l ks) ks.length; omega) hal hv
    rw [outM_yes hg hk, merged_all hk60.2 hk60.1] at h
    exact h
end Merge
end Go.Proofs.YtghckjmpcokhcaaGreatDoor
/-
  FnMerged's sameTexts; and what its loops put together. 
-/
namespace Go.Proofs.YtghckjmpcokhcaaGreatDoor
namespace MgL
open Go.RowKit Base Items Split Marks KeysS Ring Parts Merge Rd Vals
set_option linter.unusedVariables false

set_option maxRecDepth 10000 in
set_option maxHeartbeats 1000000 in
theorem texts_rows (g h n : Nat) (ca cb : Nat) (L : List ByteArray) (w : World) (h1 : RowAt w g 9 n (StringsW.scell L)) (h2 : RowAt w h 9 n (StringsW.scell L)) (hn : n ≤ 60) :
    Calls Tryz.prog 8 #[.slice (some ⟨g, 0, none⟩) n ca, .slice (some ⟨h, 0, none⟩) n cb] w fun e w' => e = .returned (.bool true) ∧ Below w.heap.size w w' := by
  have H1 := hide h1
  have H2 := hide h2
  have hg := h1.lt
  have hh := h2.lt
  clear h1 h2
  go_enter Tryz.func8, Tryz.ntmps8
  go_wp2_with fail
  go_loopw [13] (fun iv wr => ∃ k : Nat, k ≤ n ∧ iv = .int .i64 (k : Int) ∧ Hid (Below w.heap.size w wr)) (fun iv _ => n - (intOf iv).toNat)
  case atStart => exact ⟨0, Nat.zero_le _, rfl, hide (Below.refl _ _)⟩
  case round =>
    obtain ⟨k, hk, rfl, hb⟩ := hrel
    by_cases hlt : k < n
    · have c1 : wr.cell? ⟨g, k, none⟩ = some (.string (L.getD k ByteArray.empty)) := ((unhide hb).cell (p := ⟨g, k, none⟩) hg).trans ((unhide H1).cell hlt)
      have c2 : wr.cell? ⟨h, k, none⟩ = some (.string (L.getD k ByteArray.empty)) := ((unhide hb).cell (p := ⟨h, k, none⟩) hh).trans ((unhide H2).cell hlt)
      have HBQ : Hid (∀ m, Below wr.heap.size wr (wr.drewN m)) := fun m => bel_draws (Below.refl _ _) m
      generalize L.getD k ByteArray.empty = y at c1 c2
      have hyy : (y.toList != y.toList) = false := by simp
      go_wp2_with fail
      go_quiet (fail)
      generalize hwq : wr.drewN _ = wq
      have hb2 : Below wr.heap.size wr wq := by rw [← hwq]; exact unhide HBQ _
      have B2 := hide ((unhide hb).trans (hb2.mono (unhide hb).size))
      clear hb2 hwq c1 c2
      go_wp2
      go_roundw
      case rel => exact ⟨k + 1, by omega, by go_num, B2⟩
      case measure => simp [intOf]; omega
    · obtain rfl : k = n := by omega
      go_wp2
      go_ret
      exact ⟨rfl, unhide hb⟩

theorem evL_take (K : List ByteArray) (q : Nat) (h : q < K.length) : evL (K.take (q + 1)) = evL (K.take q) ++ (evI (K.getD q ByteArray.empty)).toList := by
  rw [List.take_succ_eq_append_getElem h, evL_snoc]
  congr 3
  simp [List.getD_eq_getElem?_getD, List.getElem?_eq_getElem h]
theorem ev_yes {s : ByteArray} (h : s.size % 2 = 0) : evI s = some ⟨s, 0, s, 0, ((1 + s.size : Nat) : Int)⟩ := if_pos h
theorem ev_no {s : ByteArray} (h : ¬ s.size % 2 = 0) : evI s = none := if_neg h
theorem evL_take_le (K : List ByteArray) (q : Nat) : (evL (K.take q)).length ≤ q := Nat.le_trans (evL_len _) (by simp; omega)
theorem ev_size {K : List ByteArray} (h : ∀ s ∈ K, GoodCmd.gkb s = true) (hl : K.length ≤ 60) : (told true (evL K) ++ lastS).size ≤ 100000 := by
  rw [ByteArray.size_append]
  have h1 := told_size (token := true) (l := evL K) (List.all_eq_true.2 (fun x hx => (ev_okay h x hx).1))
  have h2 := evL_len K
  have h3 : lastS.size = 5 := rfl
  omega
theorem ev_fits {K : List ByteArray} (h : ∀ s ∈ K, GoodCmd.gkb s = true) : ∀ x ∈ evL K, Fits x := fun x hx => fits_good (ev_okay h x hx).1
theorem ansE_take {os ks : List ByteArray} {n i : Nat} (h : i < (firsts os n).length) : (ansE os ks n).take (i + 1) = (ansE os ks n).take i ++ [told true (evL (Split.partAt os ks n ((firsts os n).getD i 0)).keys) ++ lastS] := by
  have hl : i < (ansE os ks n).length := by simpa [ansE] using h
  rw [List.take_succ_eq_append_getElem hl]
  congr 2
  simp [ansE, List.getD_eq_getElem?_getD, List.getElem?_eq_getElem h]
theorem ansE_len (os ks : List ByteArray) (n : Nat) : (ansE os ks n).length = (firsts os n).length := by simp [ansE]
theorem ansE_size {os ks : List ByteArray} (h : ∀ s ∈ ks, GoodCmd.gkb s = true) (hl : ks.length ≤ 60) : ∀ s ∈ ansE os ks ks.length, s.size ≤ 1048576 := by
  intro s hs
  obtain ⟨i, _, rfl⟩ := List.mem_map.1 hs
  have := ev_size (part_good (os := os) h i) (Nat.le_trans (part_len _ _ _ _) hl)
  omega
/-- What is read back. -/
theorem read_back {K : List ByteArray} (h : ∀ s ∈ K, GoodCmd.gkb s = true) (hl : K.length ≤ 60) : rdR (told true (evL K) ++ lastS) true = some (evL K) := rdR_some (ev_reads h hl)
end MgL
end Go.Proofs.YtghckjmpcokhcaaGreatDoor
