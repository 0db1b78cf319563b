/-
  No nodes at all: both GoodNodes say no.
-/
import Derived.Test.YtkodgbalhnbhcaaGreatDoorZ16
import Derived.Test.YtkodgbalhnbhcaaGreatDoorZ10
import Derived.Test.YtkodgbalhnbhcaaGreatDoorRingA
import Derived.Lib.QuietBelow
import Derived.BigQuiet
import Derived.Outline
import Derived.Test.YtkodgbalhnbhcaaGreatDoorZ17
import Derived.Test.YtkodgbalhnbhcaaGreatDoorZ4
namespace Go.Proofs.YtkodgbalhnbhcaaGreatDoor
namespace Ring
open Go.RowKit Base
set_option linter.unusedVariables false

set_option maxRecDepth 10000 in
set_option maxHeartbeats 400000 in
theorem inodes_nil (b : Option Addr) (cb : Nat) (w : World) : Calls Tryz.prog 63 #[.slice b 0 cb] w fun e w' => e = .returned (.bool false) ∧ Below w.heap.size w w' := by
  go_enter Tryz.func63, Tryz.ntmps63
  go_wp2
  go_ret
  exact ⟨rfl, Below.refl _ _⟩
set_option maxRecDepth 10000 in
set_option maxHeartbeats 400000 in
theorem snodes_nil (b : Option Addr) (cb : Nat) (w : World) : Calls Tryz.prog 46 #[.slice b 0 cb] w fun e w' => e = .returned (.bool false) ∧ Below w.heap.size w w' := by
  go_enter Tryz.func46, Tryz.ntmps46
  go_wp2_with fail
  go_loopw [7] (fun iv wr => iv = .int .i64 0 ∧ Hid (Below w.heap.size w wr)) (fun _ _ => 0)
  case atStart => exact ⟨rfl, hide (Below.refl _ _)⟩
  case round =>
    obtain ⟨rfl, hb⟩ := hrel
    go_wp2
    go_ret
    exact ⟨rfl, unhide hb⟩
end Ring
end Go.Proofs.YtkodgbalhnbhcaaGreatDoor
/-
  The model's sorting, plain. No Go function is spoken of here.
-/
namespace Go.Proofs.YtkodgbalhnbhcaaGreatDoor
namespace Ring
open Go.RowKit Base Points NumText Marks OwnR PointsW
set_option linter.unusedVariables false

theorem getD_mid (A R : List D) (x : D) : (A ++ x :: R).getD A.length zero = x := by simp [List.getD_eq_getElem?_getD]
theorem icell_pos (M : List D) (k : Nat) : icell M (k * 2) = .int .u32 (M.getD k zero).pos := by
  rw [icell, show k * 2 % 2 = 0 by omega, show k * 2 / 2 = k by omega]; simp
theorem icell_name (M : List D) (k : Nat) : icell M (k * 2 + 1) = .string (M.getD k zero).name := by
  rw [icell, show (k * 2 + 1) % 2 = 1 by omega, show (k * 2 + 1) / 2 = k by omega]; simp
theorem swap_icell (A R : List D) (x y : D) (p : Nat) (hp : A.length = p) (j : Nat) :
    (if j = p * 2 + 1 then (.string x.name : Value) else if j = p * 2 then (.int .u32 x.pos : Value) else if j = (p + 1) * 2 + 1 then (.string y.name : Value) else if j = (p + 1) * 2 then (.int .u32 y.pos : Value) else icell (A ++ y :: x :: R) j) = icell (A ++ x :: y :: R) j := by
  subst hp
  have e0 : (A ++ x :: y :: R).getD A.length zero = x := getD_mid A _ x
  have e1 : (A ++ x :: y :: R).getD (A.length + 1) zero = y := by
    simp [List.getD_eq_getElem?_getD]
  by_cases h1 : j = A.length * 2 + 1
  · rw [if_pos h1, h1, icell_name, e0]
  rw [if_neg h1]
  by_cases h2 : j = A.length * 2
  · rw [if_pos h2, h2, icell_pos, e0]
  rw [if_neg h2]
  by_cases h3 : j = (A.length + 1) * 2 + 1
  · rw [if_pos h3, h3, icell_name, e1]
  rw [if_neg h3]
  by_cases h4 : j = (A.length + 1) * 2
  · rw [if_pos h4, h4, icell_pos, e1]
  rw [if_neg h4]
  unfold icell
  have e : (A ++ y :: x :: R).getD (j / 2) zero = (A ++ x :: y :: R).getD (j / 2) zero := by
    simp only [List.getD_eq_getElem?_getD]
    congr 1
    by_cases hlt : j / 2 < A.length
    · rw [List.getElem?_append_left hlt, List.getElem?_append_left hlt]
    · rw [List.getElem?_append_right (by omega), List.getElem?_append_right (by omega)]
      obtain ⟨d, hd⟩ : ∃ d, j / 2 - A.length = d + 2 := ⟨j / 2 - A.length - 2, by omega⟩
      rw [hd]; rfl
  rw [e]

theorem sink_end {P A1 A2 L : List D} {i k : Nat} {x : D} (hP : P.length = i ∧ Sorted P ∧ P.Perm (L.take i)) (hA : A1.length = k ∧ A1 ++ A2 = P ∧ ∀ y ∈ A2, less x y = true) (hi : i < L.length) (hx : L.drop i = x :: L.drop (i + 1)) (hl : ∀ y, A1.getLast? = some y → less x y = false) :
    (A1 ++ x :: A2).length = i + 1 ∧ Sorted (A1 ++ x :: A2) ∧ (A1 ++ x :: A2).Perm (L.take (i + 1)) := by
  obtain ⟨h1, h2, h3⟩ := hP
  obtain ⟨a1, a2, a3⟩ := hA
  subst a2
  have ex : L[i] = x := by rw [List.drop_eq_getElem_cons hi] at hx; exact (List.cons.inj hx).1
  refine ⟨by simp at h1 ⊢; omega, sink_sorted h2 a3 hl, ?_⟩
  rw [List.take_succ_eq_append_getElem hi, ex]
  exact (sink_perm A1 A2 x).trans (List.Perm.append_right [x] h3)
theorem last_snoc {A : List D} {p : Nat} (h : A.length = p + 1) : ∃ I y, A = I ++ [y] ∧ I.length = p := by
  rcases List.eq_nil_or_concat A with rfl | ⟨I, y, rfl⟩
  · simp at h
  · exact ⟨I, y, by simp, by simpa using h⟩

end Ring
end Go.Proofs.YtkodgbalhnbhcaaGreatDoor
/-
  The model's l3Owner and OwnerOf: by one pass over the points the owner of the ring.
-/
namespace Go.Proofs.YtkodgbalhnbhcaaGreatDoor
namespace Ring
open Go.RowKit Base Points Marks
set_option linter.unusedVariables false

/-- The state of the pass: the boxes of the best and of the first, the row, and the box of the point at hand. -/
structure OwnS (w wr : World) (g n pb : Nat) (L : List D) (x b f : D) : Prop where
  best : Box2 wr w.heap.size 129 b
  first : Box2 wr (w.heap.size + 1) 129 f
  pbox : Box2 wr pb 129 x
  p0 : w.heap.size + 2 ≤ pb
  g0 : w.heap.size + 2 ≤ g
  row : RowAt wr g 129 (n * 2) (icell L)
  bel : Below w.heap.size w wr
/-- Between two rounds. -/
structure OwnR' (w wr : World) (g n : Nat) (L : List D) (b f : D) : Prop where
  best : Box2 wr w.heap.size 129 b
  first : Box2 wr (w.heap.size + 1) 129 f
  g0 : w.heap.size + 2 ≤ g
  row : RowAt wr g 129 (n * 2) (icell L)
  bel : Below w.heap.size w wr
section
variable {w wr w' : World} {g n pb : Nat} {L : List D} {x b f : D}
theorem OwnS.done (h : OwnS w wr g n pb L x b f) : OwnR' w wr g n L b f := ⟨h.best, h.first, h.g0, h.row, h.bel⟩
theorem OwnR'.setFirst (h : OwnR' w wr g n L b f) (y : D) : OwnR' w ((wr.setCell ⟨w.heap.size + 1, 0, none⟩ (.int .u32 y.pos)).setCell ⟨w.heap.size + 1, 1, none⟩ (.string y.name)) g n L b y := by
  have := h.g0
  exact ⟨(h.best.other (by simp) _).other (by simp) _, h.first.set y, h.g0,
    (h.row.of_block (Below.heap_setCell _ _ _ _ (by simp; omega))).of_block (Below.heap_setCell _ _ _ _ (by simp; omega)), (h.bel.setCell (by simp) _).setCell (by simp) _⟩
theorem OwnR'.point (h : OwnR' w wr g n L b f) (x : D) : OwnS w (wr.alloc (.cells #[.int .u32 x.pos, .string x.name] 129)) g n wr.heap.size L x b f :=
  ⟨h.best.alloc _, h.first.alloc _, Box2.new _ _ _, by have := h.first.lt; omega, h.g0, h.row.below (bel1 _ _) h.row.lt, h.bel.alloc h.bel.size _⟩
theorem OwnS.below (h : OwnS w wr g n pb L x b f) (hb : Below wr.heap.size wr w') : OwnS w w' g n pb L x b f :=
  ⟨h.best.below hb h.best.lt, h.first.below hb h.first.lt, h.pbox.below hb h.pbox.lt, h.p0, h.g0, h.row.below hb h.row.lt, h.bel.trans (hb.mono h.bel.size)⟩
theorem OwnS.setBest (h : OwnS w wr g n pb L x b f) (y : D) : OwnS w ((wr.setCell ⟨w.heap.size, 0, none⟩ (.int .u32 y.pos)).setCell ⟨w.heap.size, 1, none⟩ (.string y.name)) g n pb L x y f := by
  have := h.p0
  have := h.g0
  exact ⟨h.best.set y, (h.first.other (by simp) _).other (by simp) _, (h.pbox.other (by simp; omega) _).other (by simp; omega) _, h.p0, h.g0,
    (h.row.of_block (Below.heap_setCell _ _ _ _ (by simp; omega))).of_block (Below.heap_setCell _ _ _ _ (by simp; omega)), (h.bel.setCell (by simp) _).setCell (by simp) _⟩
theorem OwnS.setFirst (h : OwnS w wr g n pb L x b f) (y : D) : OwnS w ((wr.setCell ⟨w.heap.size + 1, 0, none⟩ (.int .u32 y.pos)).setCell ⟨w.heap.size + 1, 1, none⟩ (.string y.name)) g n pb L x b y := by
  have := h.p0
  have := h.g0
  exact ⟨(h.best.other (by simp) _).other (by simp) _, h.first.set y, (h.pbox.other (by simp; omega) _).other (by simp; omega) _, h.p0, h.g0,
    (h.row.of_block (Below.heap_setCell _ _ _ _ (by simp; omega))).of_block (Below.heap_setCell _ _ _ _ (by simp; omega)), (h.bel.setCell (by simp) _).setCell (by simp) _⟩
end

set_option maxRecDepth 10000 in
set_option maxHeartbeats 8000000 in
theorem mowner_some (b off cap : Nat) (l : List Nodes.D) (key : ByteArray) (w : World) (hb : b < w.heap.size) (hc : ∀ i, i < l.length → Nodes.At w b (off + i * 2) (l.getD i Nodes.zero)) (hg : NodesM.gnB l = true) (hk : key.size ≤ maxLen) :
    Calls Tryz.prog 59 #[.slice (some ⟨b, off, none⟩) l.length cap, .string key] w fun e w' => e = .returned (.string (ownerN (ring (points l)) (Hash.hashN key.data.toList))) ∧ Below w.heap.size w w' := by
  have hpts := fun w1 hb1 => points_some b off cap l w1 (Nat.lt_of_lt_of_le hb (Below.size hb1)) (fun i hi => (hc i hi).below hb1 hb) hg
  have hp1 := points_pos hg
  have hp2 := points_len hg
  have hh := fun w => Hash.l3Hash_any key w hk
  have HPT := hide hpts
  have hend := fun h f b fd => @best_end (points l) h f b fd
  generalize points l = L at HPT hp1 hp2 hend ⊢
  generalize Hash.hashN key.data.toList = h at hh ⊢
  have HEND := hide (hend h)
  have HH := hide hh
  clear hpts hc hg hh hend
  generalize ownerN (ring L) h = ans at HEND ⊢
  go_enter Tryz.func59, Tryz.ntmps59
  go_wp2_with fail
  refine (unhide HH _).mono ?_
  rintro e w1 ⟨rfl, rfl⟩
  go_wp2_with fail
  refine (unhide HPT _ (bel2 w1 _ _)).mono ?_
  rintro e w2 ⟨v, rfl, hown, hb2⟩
  simp only [World.size_alloc] at hown hb2
  obtain ⟨g, c, rfl, hg0, hgc, hrow⟩ := rowAt_own hown hp1
  have HR0 : Hid (OwnR' w1 w2 g L.length L zero zero) := by
    have e1 : Box2 (w1.alloc (.cells #[.int .u32 zero.pos, .string zero.name] 129)) w1.heap.size 129 zero := Box2.new w1 _ zero
    have e2 : Box2 ((w1.alloc (.cells #[.int .u32 zero.pos, .string zero.name] 129)).alloc (.cells #[.int .u32 zero.pos, .string zero.name] 129)) (w1.heap.size + 1) 129 zero := by
      have := Box2.new (w1.alloc (.cells #[.int .u32 zero.pos, .string zero.name] 129)) 129 zero
      simpa only [World.size_alloc] using this
    exact ⟨(e1.alloc _).below hb2 (by omega), e2.below hb2 (by omega), by omega, hrow, (bel2 w1 _ _).trans (hb2.mono (by omega))⟩
  clear hown hb2 hrow hgc
  go_wp2
  go_loopw [8, 18] (fun fv iv wr => ∃ (k : Nat) (f b : D) (fd : Bool), fv = .bool fd ∧ iv = .int .i64 (k : Int) ∧ k ≤ L.length ∧ Hid (Best L h k f b fd) ∧ Hid (OwnR' w1 wr g L.length L b f)) (fun _ iv _ => L.length - (intOf iv).toNat)
  case atStart => exact ⟨0, zero, zero, false, rfl, rfl, Nat.zero_le _, hide (best_start L h zero zero), HR0⟩
  case round =>
    clear HR0
    obtain ⟨k, f, b, fd, rfl, rfl, hkn, hst, hrr⟩ := hrel
    by_cases hlt : k < L.length
    · obtain ⟨c0, c1⟩ := at_pt (unhide hrr).row hlt
      have HST := hide (best_step (unhide hst) hlt)
      generalize L.getD k zero = x at c0 c1 HST
      have hS0 := (unhide hrr).point x
      have hglt := (unhide hrr).row.lt
      have hcl := fun w => less_any x f w
      by_cases hk0 : k = 0
      · subst hk0
        have ef : nf 0 x f = x := by unfold nf; rw [if_pos (.inl rfl)]
        rw [ef] at HST
        rw [Nat.zero_mul] at c0 c1
        have hS := ((unhide hrr).setFirst x).point x
        rw [show ((wr.setCell ⟨w1.heap.size + 1, 0, none⟩ (.int .u32 x.pos)).setCell ⟨w1.heap.size + 1, 1, none⟩ (.string x.name)).heap.size = wr.heap.size by simp [World.setCell]] at hS
        have y0 := (unhide hrr).first.c0
        have y1 := (unhide hrr).first.c1
        have y2 := (unhide hrr).first.fz 0
        have y3 := (unhide hrr).first.fz 1
        have y4 := (unhide hrr).first.lt
        have HSH := hide hS
        clear ef hcl hS0 hS
        go_upto_region 10 with fail
        have hS := unhide HSH
        clear HSH
        generalize (((wr.setCell ⟨w1.heap.size + 1, 0, none⟩ (.int .u32 x.pos)).setCell ⟨w1.heap.size + 1, 1, none⟩ (.string x.name)).alloc (.cells #[.int .u32 x.pos, .string x.name] 129)) = wx at hS ⊢
        clear y0 y1 y2 y3 y4 c0 c1
        have HBW := hide hS.best
        have HFW := hide hS.first
        have HPW := hide hS.pbox
        have d0 := hS.best.c0
        have d1 := hS.best.c1
        have d2 := hS.best.fz 0
        have d3 := hS.best.fz 1
        have d4 := hS.pbox.c0
        have d5 := hS.pbox.c1
        have l1 := hS.best.lt
        have l2 := hS.pbox.lt
        have l3 := hS.first.lt
        have HSX := hide hS
        clear hS
        by_cases hx : h ≤ x.pos
        · cases fd
          · have eb : nb h x b false = x := by unfold nb; rw [if_pos ⟨hx, .inl rfl⟩]
            have ed : nd h x b false = true := by unfold nd; rw [if_pos ⟨hx, .inl rfl⟩]
            have HST2 := hide (unhide HST)
            rw [eb, ed] at HST2
            have HS2 := hide ((unhide HSX).setBest x)
            clear eb ed HST
            go_wp2
            go_roundw
            case rel => exact ⟨0 + 1, _, x, true, rfl, by go_num, by omega, HST2, hide (unhide HS2).done⟩
            case measure => simp [intOf]; omega
          · have hcl2 := fun w => less_any x b w
            cases e2 : less x b
            · rw [e2] at hcl2
              have eb : nb h x b true = b := by unfold nb; rw [if_neg (by rintro ⟨_, hh | hh⟩; exact absurd hh (by simp); rw [e2] at hh; exact absurd hh (by simp))]
              have ed : nd h x b true = true := by unfold nd; split <;> rfl
              have HST2 := hide (unhide HST)
              rw [eb, ed] at HST2
              have HC2 := hide hcl2
              clear eb ed hcl2 e2 HST
              go_wp2_with fail
              refine (unhide HC2 _).mono ?_
              rintro e w3 ⟨rfl, hb3⟩
              have HS2 := hide ((unhide HSX).below hb3)
              clear hb3
              go_wp2
              go_roundw
              case rel => exact ⟨0 + 1, _, b, true, rfl, by go_num, by omega, HST2, hide (unhide HS2).done⟩
              case measure => simp [intOf]; omega
            · rw [e2] at hcl2
              have eb : nb h x b true = x := by unfold nb; rw [if_pos ⟨hx, .inr e2⟩]
              have ed : nd h x b true = true := by unfold nd; split <;> rfl
              have HST2 := hide (unhide HST)
              rw [eb, ed] at HST2
              have HC2 := hide hcl2
              clear eb ed hcl2 e2 HST
              go_wp2_with fail
              refine (unhide HC2 _).mono ?_
              rintro e w3 ⟨rfl, hb3⟩
              have HS2 := hide ((unhide HSX).below hb3)
              have HS3 := hide ((unhide HS2).setBest x)
              have d0 := (unhide HS2).best.c0
              have d1 := (unhide HS2).best.c1
              have d2 := (unhide HS2).best.fz 0
              have d3 := (unhide HS2).best.fz 1
              have d4 := (unhide HS2).pbox.c0
              have d5 := (unhide HS2).pbox.c1
              have l4 := (unhide HS2).best.lt
              have l5 := (unhide HS2).pbox.lt
              clear hb3
              go_wp2
              go_roundw
              case rel => exact ⟨0 + 1, _, x, true, rfl, by go_num, by omega, HST2, hide (unhide HS3).done⟩
              case measure => simp [intOf]; omega
        · have eb : nb h x b fd = b := by unfold nb; rw [if_neg (fun hh => hx hh.1)]
          have ed : nd h x b fd = fd := by unfold nd; rw [if_neg (fun hh => hx hh.1)]
          have HST2 := hide (unhide HST)
          rw [eb, ed] at HST2
          clear eb ed HST
          go_wp2
          go_roundw
          case rel => exact ⟨0 + 1, _, b, fd, rfl, by go_num, by omega, HST2, hide (unhide HSX).done⟩
          case measure => simp [intOf]; omega
      · have hk1 : ((k : Int) == 0) = false := by simp; omega
        have HS0 := hide hS0
        have y0 := (unhide hrr).first.c0
        have y1 := (unhide hrr).first.c1
        have y4 := (unhide hrr).first.lt
        cases e1 : less x f
        · rw [e1] at hcl
          have ef : nf k x f = f := by unfold nf; rw [if_neg (by rintro (hh | hh); exact hk0 hh; rw [e1] at hh; exact absurd hh (by simp))]
          rw [ef] at HST
          have HC1 := hide hcl
          clear ef hcl hS0 e1
          go_wp2_with fail
          refine (unhide HC1 _).mono ?_
          rintro e wx ⟨rfl, hbx⟩
          have hS := (unhide HS0).below hbx
          clear hbx y0 y1 y4 c0 c1 HS0
          go_upto_region 10 with fail
          have HBW := hide hS.best
          have HFW := hide hS.first
          have HPW := hide hS.pbox
          have d0 := hS.best.c0
          have d1 := hS.best.c1
          have d2 := hS.best.fz 0
          have d3 := hS.best.fz 1
          have d4 := hS.pbox.c0
          have d5 := hS.pbox.c1
          have l1 := hS.best.lt
          have l2 := hS.pbox.lt
          have l3 := hS.first.lt
          have HSX := hide hS
          clear hS
          by_cases hx : h ≤ x.pos
          · cases fd
            · have eb : nb h x b false = x := by unfold nb; rw [if_pos ⟨hx, .inl rfl⟩]
              have ed : nd h x b false = true := by unfold nd; rw [if_pos ⟨hx, .inl rfl⟩]
              have HST2 := hide (unhide HST)
              rw [eb, ed] at HST2
              have HS2 := hide ((unhide HSX).setBest x)
              clear eb ed HST
              go_wp2
              go_roundw
              case rel => exact ⟨k + 1, _, x, true, rfl, by go_num, by omega, HST2, hide (unhide HS2).done⟩
              case measure => simp [intOf]; omega
            · have hcl2 := fun w => less_any x b w
              cases e2 : less x b
              · rw [e2] at hcl2
                have eb : nb h x b true = b := by unfold nb; rw [if_neg (by rintro ⟨_, hh | hh⟩; exact absurd hh (by simp); rw [e2] at hh; exact absurd hh (by simp))]
                have ed : nd h x b true = true := by unfold nd; split <;> rfl
                have HST2 := hide (unhide HST)
                rw [eb, ed] at HST2
                have HC2 := hide hcl2
                clear eb ed hcl2 e2 HST
                go_wp2_with fail
                refine (unhide HC2 _).mono ?_
                rintro e w3 ⟨rfl, hb3⟩
                have HS2 := hide ((unhide HSX).below hb3)
                clear hb3
                go_wp2
                go_roundw
                case rel => exact ⟨k + 1, _, b, true, rfl, by go_num, by omega, HST2, hide (unhide HS2).done⟩
                case measure => simp [intOf]; omega
              · rw [e2] at hcl2
                have eb : nb h x b true = x := by unfold nb; rw [if_pos ⟨hx, .inr e2⟩]
                have ed : nd h x b true = true := by unfold nd; split <;> rfl
                have HST2 := hide (unhide HST)
                rw [eb, ed] at HST2
                have HC2 := hide hcl2
                clear eb ed hcl2 e2 HST
                go_wp2_with fail
                refine (unhide HC2 _).mono ?_
                rintro e w3 ⟨rfl, hb3⟩
                have HS2 := hide ((unhide HSX).below hb3)
                have HS3 := hide ((unhide HS2).setBest x)
                have d0 := (unhide HS2).best.c0
                have d1 := (unhide HS2).best.c1
                have d2 := (unhide HS2).best.fz 0
                have d3 := (unhide HS2).best.fz 1
                have d4 := (unhide HS2).pbox.c0
                have d5 := (unhide HS2).pbox.c1
                have l4 := (unhide HS2).best.lt
                have l5 := (unhide HS2).pbox.lt
                clear hb3
                go_wp2
                go_roundw
                case rel => exact ⟨k + 1, _, x, true, rfl, by go_num, by omega, HST2, hide (unhide HS3).done⟩
                case measure => simp [intOf]; omega
          · have eb : nb h x b fd = b := by unfold nb; rw [if_neg (fun hh => hx hh.1)]
            have ed : nd h x b fd = fd := by unfold nd; rw [if_neg (fun hh => hx hh.1)]
            have HST2 := hide (unhide HST)
            rw [eb, ed] at HST2
            clear eb ed HST
            go_wp2
            go_roundw
            case rel => exact ⟨k + 1, _, b, fd, rfl, by go_num, by omega, HST2, hide (unhide HSX).done⟩
            case measure => simp [intOf]; omega
        · rw [e1] at hcl
          have ef : nf k x f = x := by unfold nf; rw [if_pos (.inr e1)]
          rw [ef] at HST
          have HC1 := hide hcl
          clear ef hcl hS0 e1
          go_wp2_with fail
          refine (unhide HC1 _).mono ?_
          rintro e wy ⟨rfl, hbx⟩
          have hSy := (unhide HS0).below hbx
          have z0 := hSy.first.c0
          have z1 := hSy.first.c1
          have z2 := hSy.first.fz 0
          have z3 := hSy.first.fz 1
          have z4 := hSy.pbox.c0
          have z5 := hSy.pbox.c1
          have z6 := hSy.first.lt
          have z7 := hSy.pbox.lt
          have HSH := hide (hSy.setFirst x)
          clear hbx y0 y1 y4 c0 c1 HS0 hSy
          go_upto_region 10 with fail
          have hS := unhide HSH
          clear HSH
          generalize ((wy.setCell ⟨w1.heap.size + 1, 0, none⟩ (.int .u32 x.pos)).setCell ⟨w1.heap.size + 1, 1, none⟩ (.string x.name)) = wx at hS ⊢
          clear z0 z1 z2 z3 z4 z5 z6 z7
          have HBW := hide hS.best
          have HFW := hide hS.first
          have HPW := hide hS.pbox
          have d0 := hS.best.c0
          have d1 := hS.best.c1
          have d2 := hS.best.fz 0
          have d3 := hS.best.fz 1
          have d4 := hS.pbox.c0
          have d5 := hS.pbox.c1
          have l1 := hS.best.lt
          have l2 := hS.pbox.lt
          have l3 := hS.first.lt
          have HSX := hide hS
          clear hS
          by_cases hx : h ≤ x.pos
          · cases fd
            · have eb : nb h x b false = x := by unfold nb; rw [if_pos ⟨hx, .inl rfl⟩]
              have ed : nd h x b false = true := by unfold nd; rw [if_pos ⟨hx, .inl rfl⟩]
              have HST2 := hide (unhide HST)
              rw [eb, ed] at HST2
              have HS2 := hide ((unhide HSX).setBest x)
              clear eb ed HST
              go_wp2
              go_roundw
              case rel => exact ⟨k + 1, _, x, true, rfl, by go_num, by omega, HST2, hide (unhide HS2).done⟩
              case measure => simp [intOf]; omega
            · have hcl2 := fun w => less_any x b w
              cases e2 : less x b
              · rw [e2] at hcl2
                have eb : nb h x b true = b := by unfold nb; rw [if_neg (by rintro ⟨_, hh | hh⟩; exact absurd hh (by simp); rw [e2] at hh; exact absurd hh (by simp))]
                have ed : nd h x b true = true := by unfold nd; split <;> rfl
                have HST2 := hide (unhide HST)
                rw [eb, ed] at HST2
                have HC2 := hide hcl2
                clear eb ed hcl2 e2 HST
                go_wp2_with fail
                refine (unhide HC2 _).mono ?_
                rintro e w3 ⟨rfl, hb3⟩
                have HS2 := hide ((unhide HSX).below hb3)
                clear hb3
                go_wp2
                go_roundw
                case rel => exact ⟨k + 1, _, b, true, rfl, by go_num, by omega, HST2, hide (unhide HS2).done⟩
                case measure => simp [intOf]; omega
              · rw [e2] at hcl2
                have eb : nb h x b true = x := by unfold nb; rw [if_pos ⟨hx, .inr e2⟩]
                have ed : nd h x b true = true := by unfold nd; split <;> rfl
                have HST2 := hide (unhide HST)
                rw [eb, ed] at HST2
                have HC2 := hide hcl2
                clear eb ed hcl2 e2 HST
                go_wp2_with fail
                refine (unhide HC2 _).mono ?_
                rintro e w3 ⟨rfl, hb3⟩
                have HS2 := hide ((unhide HSX).below hb3)
                have HS3 := hide ((unhide HS2).setBest x)
                have d0 := (unhide HS2).best.c0
                have d1 := (unhide HS2).best.c1
                have d2 := (unhide HS2).best.fz 0
                have d3 := (unhide HS2).best.fz 1
                have d4 := (unhide HS2).pbox.c0
                have d5 := (unhide HS2).pbox.c1
                have l4 := (unhide HS2).best.lt
                have l5 := (unhide HS2).pbox.lt
                clear hb3
                go_wp2
                go_roundw
                case rel => exact ⟨k + 1, _, x, true, rfl, by go_num, by omega, HST2, hide (unhide HS3).done⟩
                case measure => simp [intOf]; omega
          · have eb : nb h x b fd = b := by unfold nb; rw [if_neg (fun hh => hx hh.1)]
            have ed : nd h x b fd = fd := by unfold nd; rw [if_neg (fun hh => hx hh.1)]
            have HST2 := hide (unhide HST)
            rw [eb, ed] at HST2
            clear eb ed HST
            go_wp2
            go_roundw
            case rel => exact ⟨k + 1, _, b, fd, rfl, by go_num, by omega, HST2, hide (unhide HSX).done⟩
            case measure => simp [intOf]; omega
    · obtain rfl : k = L.length := by omega
      have HE := hide (unhide HEND f b fd (unhide hst) hp1)
      have d0 := (unhide hrr).best.c0
      have d1 := (unhide hrr).best.c1
      have d2 := (unhide hrr).first.c0
      have d3 := (unhide hrr).first.c1
      cases fd
      · have HE2 : Hid (ans = f.name) := unhide HE
        go_wp2
        go_ret
        exact ⟨ret_str (unhide HE2).symm, (unhide hrr).bel⟩
      · have HE2 : Hid (ans = b.name) := unhide HE
        go_wp2
        go_ret
        exact ⟨ret_str (unhide HE2).symm, (unhide hrr).bel⟩

end Ring
end Go.Proofs.YtkodgbalhnbhcaaGreatDoor
