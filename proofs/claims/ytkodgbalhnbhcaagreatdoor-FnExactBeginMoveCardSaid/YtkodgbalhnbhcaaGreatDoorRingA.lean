/-
  The model's l3Less and l3Points: the order of the points, and the points of a list of nodes.
-/
import Derived.Test.YtkodgbalhnbhcaaGreatDoorZ11
import Derived.Test.YtkodgbalhnbhcaaGreatDoorZ15
import Derived.Test.YtkodgbalhnbhcaaGreatDoorNumText
import Derived.Deep.RegionHeld3
import Derived.Deep.AppendLies
import Derived.WalkLawsBesides
import Derived.Outline
namespace Go.Proofs.YtkodgbalhnbhcaaGreatDoor
namespace Ring
open Go.RowKit Base Points NumText Marks OwnR PointsW
set_option linter.unusedVariables false

set_option maxRecDepth 10000 in
set_option maxHeartbeats 400000 in
theorem less_any (x y : D) (w : World) : Calls Tryz.prog 99 #[.agg #[.int .u32 x.pos, .string x.name], .agg #[.int .u32 y.pos, .string y.name]] w fun e w' => e = .returned (.bool (less x y)) ∧ Below w.heap.size w w' := by
  obtain ⟨p, m⟩ := x
  obtain ⟨q, n⟩ := y
  by_cases hp : p = q
  · subst hp
    have H : Hid (less ⟨p, m⟩ ⟨p, n⟩ = Op.bytesLess m.toList n.toList) := by show less _ _ = _; simp [less, Lib.toList_data]
    have hpp : (p != p) = false := by simp
    go_enter Tryz.func99, Tryz.ntmps99
    go_wp2
    go_ret
    exact ⟨ret_bool (unhide H).symm, bel2 w _ _⟩
  · have H : Hid (less ⟨p, m⟩ ⟨q, n⟩ = decide (p < q)) := by show less _ _ = _; simp [less, hp]
    have hpq : (p != q) = true := by simp [hp]
    clear hp
    go_enter Tryz.func99, Tryz.ntmps99
    go_wp2
    go_ret
    exact ⟨ret_bool (unhide H).symm, bel2 w _ _⟩

theorem far {w1 w3 : World} {o : Obj} {r : Option Nat} {bx k : Nat} {u : Value} (hg : (w1.alloc o).grownBy w3 r) (hr : r ≠ some bx) (hb : bx < w1.heap.size) (h : w1.cell? ⟨bx, k, none⟩ = some u) : w3.cell? ⟨bx, k, none⟩ = some u :=
  (World.cell?_of_block (a := ⟨bx, k, none⟩) (hg.block bx (by rw [World.size_alloc]; omega) (fun e => hr e.symm))).trans ((World.cell?_of_block (a := ⟨bx, k, none⟩) (Below.heap_alloc w1 o bx hb)).trans h)
theorem l3Hash_same (s : ByteArray) (w : World) (hs : s.size ≤ maxLen) : Calls Tryz.prog 97 #[.string s] w fun e w' => e = .returned (.int .u32 (Hash.hashN s.data.toList)) ∧ w = w' :=
  (Hash.l3Hash_any s w hs).mono fun e w' ⟨he, hw⟩ => ⟨he, hw.symm⟩
theorem below_drew {B : Nat} {w w1 : World} (h : Below B w.drew w1) : Below B w w1 := ⟨h.os, h.tape, h.output, h.size, h.block⟩
theorem infoP' : ∃ i, Tryz.prog.info? 129 = some i ∧ i.zero = some (.agg #[.int .u32 0, .string ByteArray.empty]) ∧ i.size = 2 ∧ i.bytes = 24 := by
  have h : (Tryz.prog.info? 129).map (fun i => (i.zero, i.size, i.bytes)) = some (some (.agg #[.int .u32 0, .string ByteArray.empty]), 2, 24) := by kernel_rfl
  obtain ⟨i, hi, hz⟩ := Option.map_eq_some_iff.1 h
  simp only [Prod.mk.injEq] at hz
  exact ⟨i, hi, hz.1, hz.2.1, hz.2.2⟩

set_option maxRecDepth 10000 in
set_option maxHeartbeats 4000000 in
theorem points_some (b off cap : Nat) (l : List Nodes.D) (w : World) (hb : b < w.heap.size) (hc : ∀ i, i < l.length → Nodes.At w b (off + i * 2) (l.getD i Nodes.zero)) (hg : NodesM.gnB l = true) :
    Calls Tryz.prog 98 #[.slice (some ⟨b, off, none⟩) l.length cap] w fun e w' =>
      ∃ v, e = .returned v ∧ w'.ownsRow w.heap.size 129 2 v (points l).length (flat (points l)) ∧ Below w.heap.size w w' := by
  obtain ⟨i0, hi, hz0, hz1, hz2⟩ := infoP'
  have HI := hide hi
  have HZ0 := hide hz0
  have HZ1 := hide hz1
  have HZ2 := hide hz2
  have hcs := hide hc
  have HG := hide hg
  have hl8 := (good_len hg).2
  clear hi hz0 hz1 hz2 hc hg
  go_enter Tryz.func98, Tryz.ntmps98
  go_wp2
  go_loopw [3, 9] (fun v iv wr => ∃ k : Nat, k ≤ l.length ∧ iv = .int .i64 (k : Int) ∧ Hid (wr.ownsRow w.heap.size 129 2 v (points (l.take k)).length (flat (points (l.take k)))) ∧ Hid (Below w.heap.size w wr)) (fun _ iv _ => l.length - (intOf iv).toNat)
  case atStart => exact ⟨0, Nat.zero_le _, rfl, hide (World.ownsRow_nil _ _ _ _), hide (Below.refl _ _)⟩
  case round =>
    obtain ⟨k, hk, rfl, hown, hbel⟩ := hrel
    by_cases hlt : k < l.length
    · obtain ⟨c0, c1⟩ := (unhide hcs k hlt).below (unhide hbel) hb
      have hx := good_at (unhide HG) hlt
      have hpl := points_le (unhide HG) k hk
      have hst := hide (points_take_succ l k hlt)
      have hzw := (unhide hbel).size
      generalize l.getD k Nodes.zero = x at c0 c1 hx hst
      generalize points (l.take k) = P at hown hst hpl
      obtain ⟨hnm, -, hw1, hw2⟩ := node_bd hx
      obtain ⟨n, hn⟩ : ∃ n : Nat, 8 * x.weight = (n : Int) := ⟨(8 * x.weight).toNat, by omega⟩
      have hn40 : n ≤ 40 := by omega
      have hsz : Hid (ptsOf x = ptsN x.name n) := by show ptsN x.name (8 * x.weight).toNat = _; rw [hn]; rfl
      have HN := hide hn
      clear hx hn
      go_wp2
      generalize hbx0 : wr.heap.size = bx at hzw ⊢
      have HBX := hide hbx0
      clear hbx0
      go_loopw [3, 6] (fun v iv wi => ∃ j : Nat, j ≤ n ∧ iv = .int .i64 (j : Int) ∧ Hid (wi.ownsRow w.heap.size 129 2 v (P ++ ptsN x.name j).length (flat (P ++ ptsN x.name j))) ∧ Hid (v.ownBlock ≠ some bx) ∧ bx < wi.heap.size ∧
          wi.cell? ⟨bx, 0, none⟩ = some (.string x.name) ∧ wi.cell? ⟨bx, 1, none⟩ = some (.int .i64 x.weight) ∧ Hid (Below w.heap.size w wi)) (fun _ iv _ => n - (intOf iv).toNat)
      case atStart => exact ⟨0, Nat.zero_le _, rfl, hide (by simpa [ptsN] using own_below (unhide hown) (bel1 wr _) (Nat.le_refl _)), hide (fun e => by
          obtain ⟨va, vc, hv⟩ := own_form (unhide hown)
          have := (unhide hown).lt _ e
          have := unhide HBX
          omega), by simp [unhide HBX], by rw [← unhide HBX, World.cell?_alloc_new]; rfl, by rw [← unhide HBX, World.cell?_alloc_new]; rfl, hide ((unhide hbel).alloc (unhide hbel).size _)⟩
      case round =>
        obtain ⟨j, hj, rfl, howi, hne, hbx, d0, d1, hbi⟩ := hrel
        by_cases hlt2 : j < n
        · have hjl : (j : Int) < 8 * x.weight := by have := unhide HN; omega
          have hts := txt_size j (by omega)
          have hpj := hide (ptsN_succ x.name j)
          have hcN := fun w => num_any (j : Int) w (by omega) (by omega)
          have hcH := fun w => l3Hash_same ((x.name ++ ⟨#[45]⟩) ++ txt j) w (by simp [ByteArray.size_append]; unfold maxLen; have : (⟨#[45]⟩ : ByteArray).size = 1 := rfl; omega)
          rw [Int.toNat_natCast] at hcN
          unfold ptN at hpj
          generalize Hash.hashN ((x.name ++ ⟨#[45]⟩) ++ txt j).data.toList = hh at hcH hpj
          generalize txt j = t at hts hcN hcH
          have ad1 := fun w => run_string_add_sum (P := Tryz.prog) w x.name ⟨#[45]⟩ (by have : (⟨#[45]⟩ : ByteArray).size = 1 := rfl; omega)
          have ad2 := fun w => run_string_add_sum (P := Tryz.prog) w (x.name ++ ⟨#[45]⟩) t (by rw [ByteArray.size_append]; have : (⟨#[45]⟩ : ByteArray).size = 1 := rfl; omega)
          have HCN := hide hcN
          have HCH := hide hcH
          have hlen : (P ++ ptsN x.name j).length ≤ 400 := by rw [List.length_append, ptsN_length]; omega
          have hzi := (unhide hbi).size
          generalize hQ0 : P ++ ptsN x.name j = Q at howi hlen
          have hQQ := hide hQ0
          clear hQ0
          have hQ : Hid (P ++ ptsN x.name (j + 1) = P ++ ptsN x.name j ++ [⟨hh, x.name⟩]) := by show P ++ ptsN x.name (j + 1) = _; rw [unhide hpj, List.append_assoc]
          clear hcN hcH hpj
          go_wp2
          go_region_held3 (fun w' => w'.cell? ⟨bx, 0, none⟩ = some (.string x.name)) (first | go_keep | assumption) (first | (go_at_call 132; refine (unhide HCN _).mono ?_; rintro e w1 ⟨rfl, hb1⟩; have q1 := (hb1.cell (p := ⟨bx, 0, none⟩) hbx).trans d0; have q2 := (hb1.cell (p := ⟨bx, 1, none⟩) hbx).trans d1; have hz1 : wr.heap.size ≤ w1.heap.size := hb1.size; have HB1 := hide hb1) | (go_at_call 97; refine (unhide HCH _).mono ?_; rintro e w2 ⟨rfl, rfl⟩) | (refine step_append_lies _ (by rfl) _ _ _ (by rfl) w.heap.size 129 i0 _ 2 24 Tryz.underlying113 (unhide HI) (unhide HZ0) (unhide HZ1) (unhide HZ2) rfl (by decide) _ _ _ (by rfl) (own_below (own_below (unhide howi) (below_drew (unhide HB1)) (Nat.le_refl _)) (bel1 _ _) (Nat.le_refl _)) ⟨w1.heap.size, 0, none⟩ 1 1 (cellsOf ⟨hh, x.name⟩) (by rfl) rfl (news_cells w1 ⟨hh, x.name⟩ _) (news_one ⟨hh, x.name⟩) (by omega) (by unfold maxLen; omega) (by omega) (by rw [World.size_alloc]; omega) (w1.heap.size + 1) (by simp) ?_; intro g cap w3 hown3 hgrow hat hlt3; have q3 := far hgrow (unhide hne) (by omega) q1; have q4 := far hgrow (unhide hne) (by omega) q2))
          have HO3 : Hid (w3.ownsRow w.heap.size 129 2 (.slice (some ⟨g, 0, none⟩) (Q.length + 1) cap) (P ++ ptsN x.name (j + 1)).length (flat (P ++ ptsN x.name (j + 1)))) := own_snoc hown3 (by rw [unhide hQ, unhide hQQ])
          have HNE3 : Hid (g ≠ bx) := by
            show g ≠ bx
            rcases hat with h | h
            · intro e; exact unhide hne (by rw [h, e])
            · omega
          have HB3 := hide (((((unhide hbi).drew).trans ((unhide HB1).mono hzi)).alloc (by omega) _).grown hgrow (by rw [World.size_alloc]; omega) (own_block (unhide howi)))
          have hg3 : bx < w3.heap.size := by have := hgrow.size; rw [World.size_alloc] at this; omega
          clear hown3 hgrow hat q1 q2
          go_wp2
          go_roundw
          case rel => exact ⟨j + 1, by omega, by go_num, HO3, hide (fun e => unhide HNE3 (by simpa [Value.ownBlock] using e)), hg3, q3, q4, HB3⟩
          case measure => simp [intOf]; omega
        · obtain rfl : j = n := by omega
          have hjl : ¬ (j : Int) < 8 * x.weight := by have := unhide HN; omega
          have HO3 : Hid (wr.ownsRow w.heap.size 129 2 u3 (points (l.take (k + 1))).length (flat (points (l.take (k + 1))))) := by
            show wr.ownsRow _ _ _ _ _ _
            rw [unhide hst, unhide hsz]
            exact unhide howi
          go_wp2
          go_roundw
          case rel => exact ⟨k + 1, by omega, by go_num, HO3, hbi⟩
          case measure => simp [intOf]; omega
    · obtain rfl : k = l.length := by omega
      rw [List.take_length] at hown
      go_wp2
      go_ret
      exact ⟨_, rfl, unhide hown, unhide hbel⟩
end Ring
end Go.Proofs.YtkodgbalhnbhcaaGreatDoor
