/-
  The program's search by halving and ownerIn: the name of the first point that is not below the key's hash, going round.
-/
import Derived.Test.YtoinbldoioffdaaDoorRingWA
namespace Go.Proofs.YtoinbldoioffdaaDoor
namespace Ring
open Go.RowKit Base Points Marks
set_option linter.unusedVariables false

/-- Who owns a key: of good nodes and a good key. -/
def ownL (l : List Nodes.D) (key : ByteArray) : ByteArray := if NodesM.gnB l && GoodKey.gk key.data.toList then ownerN (ring (points l)) (Hash.hashN key.data.toList) else ByteArray.empty
set_option maxRecDepth 10000 in
set_option maxHeartbeats 1000000 in
theorem ownerOf_any (b off cap : Nat) (l : List Nodes.D) (key : ByteArray) (w : World) (hb : b < w.heap.size) (hc : ∀ i, i < l.length → Nodes.At w b (off + i * 2) (l.getD i Nodes.zero)) (hl : l.length ≤ maxLen) (hs : ∀ x ∈ l, Nodes.Fits x) (hk : key.size ≤ maxLen) (hv : Vars w) :
    Calls Tryd.prog 9 #[.slice (some ⟨b, off, none⟩) l.length cap, .string key] w fun e w' =>
      e = .returned (.tuple #[.string (ownL l key), .bool (NodesM.gnB l && GoodKey.gk key.data.toList)]) ∧ Below w.heap.size w w' := by
  have hgood := NodesM.inodes_some b off cap l w hb hc hl hs
  have HS := fun (hg : NodesM.gnB l = true) w1 hb1 => ringOf_some b off cap l w1 (Nat.lt_of_lt_of_le hb (Below.size hb1)) (fun i hi => (hc i hi).below hb1 hb) hg (hv.below hb1)
  have HO : ∀ (hg : NodesM.gnB l = true) g c w1, RowAt w1 g 64 ((points l).length * 2) (icell (ring (points l))) → Calls Tryd.prog 15 #[.slice (some ⟨g, 0, none⟩) (points l).length c, .string key] w1 fun e w' => e = .returned (.string (ownerN (ring (points l)) (Hash.hashN key.data.toList))) ∧ Below w1.heap.size w1 w' :=
    fun hg g c w1 hr => ownerIn_some g c _ _ key w1 hr (ring_length _) (points_pos hg) (by have := points_len hg; omega) (ring_sorted _) hk
  have hgk := fun w => GoodKey.impl_any key w hk
  have HRL : Hid (ownL l key = if NodesM.gnB l && GoodKey.gk key.data.toList then ownerN (ring (points l)) (Hash.hashN key.data.toList) else ByteArray.empty) := rfl
  generalize ownL l key = ans at HRL ⊢
  clear hc hs hv
  unfold maxLen at hl
  cases e : NodesM.gnB l
  · rw [e] at hgood HRL
    have HE : Hid (ans = ByteArray.empty) := unhide HRL
    have HGD := hide hgood
    clear hgood e HS HO hgk
    obtain rfl := unhide HE
    go_enter Tryd.func9, Tryd.ntmps9
    go_wp2_with fail
    refine (unhide HGD).mono ?_
    rintro e w1 ⟨rfl, hb1⟩
    have HB := hide hb1
    clear hb1
    go_wp2
    go_ret2
    exact ⟨rfl, unhide HB⟩
  · rw [e] at hgood HRL
    have HGD := hide hgood
    have HSS := hide (HS e)
    have HOO := hide (HO e)
    cases e2 : GoodKey.gk key.data.toList
    · rw [e2] at HRL hgk
      have HE : Hid (ans = ByteArray.empty) := unhide HRL
      have HGK := hide hgk
      clear hgood e HS HO hgk e2
      obtain rfl := unhide HE
      go_enter Tryd.func9, Tryd.ntmps9
      go_wp2_with fail
      refine (unhide HGD).mono ?_
      rintro e w1 ⟨rfl, hb1⟩
      have HB := hide hb1
      clear hb1
      go_wp2_with fail
      refine (unhide HGK _).mono ?_
      rintro e w2 ⟨rfl, rfl⟩
      go_wp2
      go_ret2
      exact ⟨rfl, unhide HB⟩
    · rw [e2] at HRL hgk
      have HE : Hid (ans = ownerN (ring (points l)) (Hash.hashN key.data.toList)) := unhide HRL
      have HGK := hide hgk
      clear hgood e HS HO hgk e2 HRL
      generalize hN : (points l).length = n at HSS HOO
      have HNN := hide hN
      clear hN
      rw [← unhide HE] at HOO
      go_enter Tryd.func9, Tryd.ntmps9
      go_wp2_with fail
      refine (unhide HGD).mono ?_
      rintro e w1 ⟨rfl, hb1⟩
      have HB := hide hb1
      clear hb1
      go_wp2_with fail
      refine (unhide HGK _).mono ?_
      rintro e w2 ⟨rfl, hw2⟩
      subst hw2
      go_wp2_with fail
      refine (unhide HSS _ (unhide HB)).mono ?_
      rintro e w3 ⟨g, c, rfl, hg3, hrow3, hb3⟩
      have HR3 := hide hrow3
      have HB3 := hide ((unhide HB).trans (hb3.mono (unhide HB).size))
      clear hb3 hrow3
      go_wp2_with fail
      refine (unhide HOO g c _ (unhide HR3)).mono ?_
      rintro e w4 ⟨rfl, hb4⟩
      have HB4 := hide ((unhide HB3).trans (hb4.mono (unhide HB3).size))
      clear hb4
      go_wp2
      go_ret2
      exact ⟨rfl, unhide HB4⟩
end Ring
end Go.Proofs.YtoinbldoioffdaaDoor
