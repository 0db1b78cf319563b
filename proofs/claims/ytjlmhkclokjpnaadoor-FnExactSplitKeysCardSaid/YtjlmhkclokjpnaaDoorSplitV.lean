/-
  SplitKeys, the program's and the model's, at every nodes and keys that lie in memory.
-/
import Derived.Test.YtjlmhkclokjpnaaDoorSplitS
import Derived.Test.YtjlmhkclokjpnaaDoorSplitZ
namespace Go.Proofs.YtjlmhkclokjpnaaDoor
namespace Split
open Go.RowKit Base Marks OwnR Ring KeysS Parts
set_option linter.unusedVariables false

def Ends (l : List Nodes.D) (ks : List ByteArray) (w : World) (e : Ending) (w' : World) : Prop :=
  ∃ v n p, e = .returned (.tuple #[v, .bool (okB l ks)]) ∧ Out w' w.heap.size v n p ∧ Tells n p (outL l ks) ∧ Below w.heap.size w w'
theorem tells_nil (p : Nat → Pt) : Tells 0 p [] := ⟨rfl, fun i hi => absurd hi (by omega)⟩
theorem out_yes {l : List Nodes.D} {ks : List ByteArray} (h1 : NodesM.gnB l = true) (h2 : kB ks = true) : okB l ks = true ∧ outL l ks = parts (owners l ks) ks ks.length := by
  have : okB l ks = true := by unfold okB; rw [h1, h2]; rfl
  exact ⟨this, by unfold outL; rw [this]; rfl⟩
theorem out_no {l : List Nodes.D} {ks : List ByteArray} (h : NodesM.gnB l = false ∨ kB ks = false) : okB l ks = false ∧ outL l ks = [] := by
  have : okB l ks = false := by unfold okB; rcases h with h | h <;> rw [h] <;> simp
  exact ⟨this, by unfold outL; rw [this]; rfl⟩

set_option maxRecDepth 10000 in
set_option maxHeartbeats 2000000 in
theorem impl_any (b off cap : Nat) (l : List Nodes.D) (kb ko kc : Nat) (ks : List ByteArray) (w : World) (hb : b < w.heap.size) (hc : ∀ i, i < l.length → Nodes.At w b (off + i * 2) (l.getD i Nodes.zero)) (hl : l.length ≤ maxLen) (hs : ∀ x ∈ l, Nodes.Fits x)
    (hkb : kb < w.heap.size) (hkc : ∀ i, i < ks.length → w.cell? ⟨kb, ko + i, none⟩ = some (.string (ks.getD i ByteArray.empty))) (hkl : ks.length ≤ maxLen) (hks : ∀ s ∈ ks, s.size ≤ maxLen) (hv : Vars w) :
    Calls Tryd.prog 11 #[.slice (some ⟨b, off, none⟩) l.length cap, .slice (some ⟨kb, ko, none⟩) ks.length kc] w (Ends l ks w) := by
  cases hg : NodesM.gnB l
  · obtain ⟨e1, e2⟩ := out_no (ks := ks) (.inl hg)
    have HGN := hide (fun w1 (hb1 : Below w.heap.size w w1) => NodesM.inodes_some b off cap l w1 (Nat.lt_of_lt_of_le hb hb1.size) (fun i hi => (hc i hi).below hb1 hb) hl hs)
    rw [hg] at HGN
    show Calls _ _ _ w (fun e w' => Ends l ks w e w')
    unfold Ends
    rw [e1, e2]
    clear hg e1 e2 hc hs hkc hks hv
    go_enter Tryd.func11, Tryd.ntmps11
    go_wp2_with fail
    refine (unhide HGN _ (bel1 w _)).mono ?_
    rintro e w1 ⟨rfl, hb1⟩
    have B1 := hide ((bel1 w _).trans (hb1.mono (by simp)))
    clear hb1
    go_wp2
    go_ret2
    exact ⟨_, 0, fun _ => ⟨ByteArray.empty, 0, 0, []⟩, rfl, Out.nil _ _ _, tells_nil _, unhide B1⟩
  cases hk : kB ks
  · obtain ⟨e1, e2⟩ := out_no (l := l) (.inr hk)
    have HGN := hide (fun w1 (hb1 : Below w.heap.size w w1) => NodesM.inodes_some b off cap l w1 (Nat.lt_of_lt_of_le hb hb1.size) (fun i hi => (hc i hi).below hb1 hb) hl hs)
    rw [hg] at HGN
    have HGK : Hid (∀ w1, Below w.heap.size w w1 → Calls Tryd.prog 34 #[.slice (some ⟨kb, ko, none⟩) ks.length kc, .int .i64 0, .int .i64 60] w1 fun e w' => e = .returned (.bool false) ∧ Below w1.heap.size w1 w') := fun w1 hb1 => by
      have := KeysI.keys_any kb ko kc ks 0 60 w1 (Nat.lt_of_lt_of_le hkb hb1.size) (fun i hi => (hb1.cell (p := ⟨kb, ko + i, none⟩) hkb).trans (hkc i hi)) hkl hks
      rw [show (GoodKey.inB ks.length 0 60 && ks.all GoodCmd.gkb) = kB ks from rfl, hk] at this; exact this
    show Calls _ _ _ w (fun e w' => Ends l ks w e w')
    unfold Ends
    rw [e1, e2]
    clear hg hk e1 e2 hc hs hkc hks hv
    go_enter Tryd.func11, Tryd.ntmps11
    go_wp2_with fail
    refine (unhide HGN _ (bel1 w _)).mono ?_
    rintro e w1 ⟨rfl, hb1⟩
    have B1 := hide ((bel1 w _).trans (hb1.mono (by simp)))
    have cH : w1.cell? ⟨w.heap.size, 0, none⟩ = some (.slice (some ⟨kb, ko, none⟩) ks.length kc) := by
      rw [hb1.cell (by simp)]; rw [World.cell?_alloc_new]; rfl
    clear hb1
    go_wp2_with fail
    refine (unhide HGK _ (unhide B1)).mono ?_
    rintro e w2 ⟨rfl, hb2⟩
    have B2 := hide ((unhide B1).trans (hb2.mono (unhide B1).size))
    clear hb2 cH
    go_wp2
    go_ret2
    exact ⟨_, 0, fun _ => ⟨ByteArray.empty, 0, 0, []⟩, rfl, Out.nil _ _ _, tells_nil _, unhide B2⟩
  obtain ⟨e1, e2⟩ := out_yes hg hk
  refine (callsIn_wide.1 (split_some b off cap l kb ko kc ks w hb hc hl hs hkb hkc hkl hks hg hk hv)).mono ?_
  rintro e w' ⟨v, n, p, he, h1, h2, h3⟩
  exact ⟨v, n, p, by rw [he, e1], h1, by rw [e2]; exact h2, h3⟩

set_option maxRecDepth 10000 in
set_option maxHeartbeats 2000000 in
theorem spec_any (b off cap : Nat) (l : List Nodes.D) (kb ko kc : Nat) (ks : List ByteArray) (w : World) (hb : b < w.heap.size) (hc : ∀ i, i < l.length → Nodes.At w b (off + i * 2) (l.getD i Nodes.zero)) (hl : l.length ≤ maxLen) (hs : ∀ x ∈ l, Nodes.Fits x)
    (hkb : kb < w.heap.size) (hkc : ∀ i, i < ks.length → w.cell? ⟨kb, ko + i, none⟩ = some (.string (ks.getD i ByteArray.empty))) (hkl : ks.length ≤ maxLen) (hks : ∀ s ∈ ks, s.size ≤ maxLen) :
    Calls Tryd.prog 8 #[.slice (some ⟨b, off, none⟩) l.length cap, .slice (some ⟨kb, ko, none⟩) ks.length kc] w (Ends l ks w) := by
  have HGN := hide (NodesM.nodes_some b off cap l w hb hc hl hs)
  have HGK : Hid (∀ w1, Below w.heap.size w w1 → Calls Tryd.prog 30 #[.slice (some ⟨kb, ko, none⟩) ks.length kc] w1 fun e w' => e = .returned (.bool (kB ks)) ∧ w' = w1) := fun w1 hb1 =>
    KeysS.mkeys_any kb ko kc ks w1 (Nat.lt_of_lt_of_le hkb (Below.size hb1)) (fun i hi => ((hb1.cell (p := ⟨kb, ko + i, none⟩) hkb).trans (hkc i hi))) hkl hks
  have HSP := hide (fun w1 (hb1 : Below w.heap.size w w1) hg hk => l6Split_some b off cap l kb ko kc ks w1 (Nat.lt_of_lt_of_le hb hb1.size) (fun i hi => (hc i hi).below hb1 hb) hg (Nat.lt_of_lt_of_le hkb hb1.size) (fun i hi => (hb1.cell (p := ⟨kb, ko + i, none⟩) hkb).trans (hkc i hi)) hk)
  show Calls _ _ _ w (fun e w' => Ends l ks w e w')
  unfold Ends
  clear hc hs hkc hks
  cases hg : NodesM.gnB l
  · obtain ⟨e1, e2⟩ := out_no (ks := ks) (.inl hg)
    rw [hg] at HGN
    rw [e1, e2]
    clear hg e1 e2 HSP
    go_enter Tryd.func8, Tryd.ntmps8
    go_wp2_with fail
    refine (unhide HGN).mono ?_
    rintro e w1 ⟨rfl, hb1⟩
    have B1 := hide hb1
    clear hb1
    go_wp2
    go_ret2
    exact ⟨_, 0, fun _ => ⟨ByteArray.empty, 0, 0, []⟩, rfl, Out.nil _ _ _, tells_nil _, unhide B1⟩
  cases hk : kB ks
  · obtain ⟨e1, e2⟩ := out_no (l := l) (.inr hk)
    rw [hg] at HGN
    rw [hk] at HGK
    rw [e1, e2]
    clear hg hk e1 e2 HSP
    go_enter Tryd.func8, Tryd.ntmps8
    go_wp2_with fail
    refine (unhide HGN).mono ?_
    rintro e w1 ⟨rfl, hb1⟩
    have B1 := hide hb1
    clear hb1
    go_wp2_with fail
    refine (unhide HGK _ (unhide B1)).mono ?_
    rintro e w2 ⟨rfl, h2⟩
    rw [h2]
    clear h2 w2
    go_wp2
    go_ret2
    exact ⟨_, 0, fun _ => ⟨ByteArray.empty, 0, 0, []⟩, rfl, Out.nil _ _ _, tells_nil _, unhide B1⟩
  obtain ⟨e1, e2⟩ := out_yes hg hk
  rw [e1, e2]
  have HSP' := hide (fun w1 hb1 => unhide HSP w1 hb1 hg hk)
  rw [hg] at HGN
  rw [hk] at HGK
  clear hg hk e1 e2 HSP
  generalize parts (owners l ks) ks ks.length = PL at HSP' ⊢
  go_enter Tryd.func8, Tryd.ntmps8
  go_wp2_with fail
  refine (unhide HGN).mono ?_
  rintro e w1 ⟨rfl, hb1⟩
  have B1 := hide hb1
  clear hb1
  go_wp2_with fail
  refine (unhide HGK _ (unhide B1)).mono ?_
  rintro e w2 ⟨rfl, h2⟩
  rw [h2]
  clear h2 w2
  go_wp2_with fail
  refine (unhide HSP' _ (unhide B1)).mono ?_
  rintro e w3 ⟨v, n, p, rfl, hout, htl, hb3⟩
  have B3 := hide ((unhide B1).trans (hb3.mono (unhide B1).size))
  have hz := (unhide B1).size
  have HO : Hid (Out w3 w.heap.size v n p) := ⟨own_le hout.1 hz, fun i hi => ⟨(hout.2.1 i hi).1, Nat.le_trans hz (hout.2.1 i hi).2⟩, hout.2.2⟩
  have HT := hide htl
  clear hout htl hb3
  go_wp2
  go_ret2
  exact ⟨v, n, p, rfl, unhide HO, unhide HT, unhide B3⟩
end Split
end Go.Proofs.YtjlmhkclokjpnaaDoor
