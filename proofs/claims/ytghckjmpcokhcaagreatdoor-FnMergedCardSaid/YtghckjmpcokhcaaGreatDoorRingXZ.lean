/-
  The model's l3Owner and OwnerOf: by one pass over the points the owner of the ring.
-/
import Derived.Test.YtghckjmpcokhcaaGreatDoorRingZ
import Derived.Test.YtghckjmpcokhcaaGreatDoorRingWA
import Derived.Test.YtghckjmpcokhcaaGreatDoorKeyZ
import Derived.Outline
import Derived.Test.YtghckjmpcokhcaaGreatDoorSplitA
import Derived.Test.YtghckjmpcokhcaaGreatDoorPartZ
import Derived.Maps.AppendAt
namespace Go.Proofs.YtghckjmpcokhcaaGreatDoor
namespace Ring
open Go.RowKit Base Points Marks
set_option linter.unusedVariables false

/-- The state of the pass: the boxes of the best and of the first, the row, and the box of the point at hand. -/
structure OwnS (w wr : World) (g n pb : Nat) (L : List D) (x b f : D) : Prop where
  best : Box2 wr w.heap.size 118 b
  first : Box2 wr (w.heap.size + 1) 118 f
  pbox : Box2 wr pb 118 x
  p0 : w.heap.size + 2 ≤ pb
  g0 : w.heap.size + 2 ≤ g
  row : RowAt wr g 118 (n * 2) (icell L)
  bel : Below w.heap.size w wr
/-- Between two rounds. -/
structure OwnR' (w wr : World) (g n : Nat) (L : List D) (b f : D) : Prop where
  best : Box2 wr w.heap.size 118 b
  first : Box2 wr (w.heap.size + 1) 118 f
  g0 : w.heap.size + 2 ≤ g
  row : RowAt wr g 118 (n * 2) (icell L)
  bel : Below w.heap.size w wr
section
variable {w wr w' : World} {g n pb : Nat} {L : List D} {x b f : D}
theorem OwnS.done (h : OwnS w wr g n pb L x b f) : OwnR' w wr g n L b f := ⟨h.best, h.first, h.g0, h.row, h.bel⟩
theorem OwnR'.setFirst (h : OwnR' w wr g n L b f) (y : D) : OwnR' w ((wr.setCell ⟨w.heap.size + 1, 0, none⟩ (.int .u32 y.pos)).setCell ⟨w.heap.size + 1, 1, none⟩ (.string y.name)) g n L b y := by
  have := h.g0
  exact ⟨(h.best.other (by simp) _).other (by simp) _, h.first.set y, h.g0,
    (h.row.of_block (Below.heap_setCell _ _ _ _ (by simp; omega))).of_block (Below.heap_setCell _ _ _ _ (by simp; omega)), (h.bel.setCell (by simp) _).setCell (by simp) _⟩
theorem OwnR'.point (h : OwnR' w wr g n L b f) (x : D) : OwnS w (wr.alloc (.cells #[.int .u32 x.pos, .string x.name] 118)) g n wr.heap.size L x b f :=
  ⟨h.best.alloc _, h.first.alloc _, Box2.new _ _ _, by have := h.first.lt; omega, h.g0, h.row.below (bel1 _ _) h.row.lt, h.bel.alloc h.bel.size _⟩
theorem OwnS.below (h : OwnS w wr g n pb L x b f) (hb : Below wr.heap.size wr w') : OwnS w w' g n pb L x b f :=
  ⟨h.best.below hb h.best.lt, h.first.below hb h.first.lt, h.pbox.below hb h.pbox.lt, h.p0, h.g0, h.row.below hb h.row.lt, h.bel.trans (hb.mono h.bel.size)⟩
theorem OwnS.setBest (h : OwnS w wr g n pb L x b f) (y : D) : OwnS w ((wr.setCell ⟨w.heap.size, 0, none⟩ (.int .u32 y.pos)).setCell ⟨w.heap.size, 1, none⟩ (.string y.name)) g n pb L x y f := by
  have := h.p0
  have := h.g0
  exact ⟨h.best.set y, (h.first.other (by simp) _).other (by simp) _, (h.pbox.other (by simp; omega) _).other (by simp; omega) _, h.p0, h.g0,
    (h.row.of_block (Below.heap_setCell _ _ _ _ (by simp; omega))).of_block (Below.heap_setCell _ _ _ _ (by simp; omega)), (h.bel.setCell (by simp) _).setCell (by simp) _⟩
theorem OwnS.setFirst (h : OwnS w wr g n pb L x b f) (y : D) : OwnS w ((wr.setCell ⟨w.heap.size + 1, 0, none⟩ (.int .u32 y.pos)).setCell ⟨w.heap.size + 1, 1, none⟩ (.string y.name)) g n pb L x b y := by
  have := h.p0
  have := h.g0
  exact ⟨(h.best.other (by simp) _).other (by simp) _, h.first.set y, (h.pbox.other (by simp; omega) _).other (by simp; omega) _, h.p0, h.g0,
    (h.row.of_block (Below.heap_setCell _ _ _ _ (by simp; omega))).of_block (Below.heap_setCell _ _ _ _ (by simp; omega)), (h.bel.setCell (by simp) _).setCell (by simp) _⟩
end

set_option maxRecDepth 10000 in
set_option maxHeartbeats 8000000 in
theorem mowner_some (b off cap : Nat) (l : List Nodes.D) (key : ByteArray) (w : World) (hb : b < w.heap.size) (hc : ∀ i, i < l.length → Nodes.At w b (off + i * 2) (l.getD i Nodes.zero)) (hg : NodesM.gnB l = true) (hk : key.size ≤ maxLen) :
    Calls Tryz.prog 60 #[.slice (some ⟨b, off, none⟩) l.length cap, .string key] w fun e w' => e = .returned (.string (ownerN (ring (points l)) (Hash.hashN key.data.toList))) ∧ Below w.heap.size w w' := by
  have hpts := fun w1 hb1 => points_some b off cap l w1 (Nat.lt_of_lt_of_le hb (Below.size hb1)) (fun i hi => (hc i hi).below hb1 hb) hg
  have hp1 := points_pos hg
  have hp2 := points_len hg
  have hh := fun w => Hash.l3Hash_any key w hk
  have HPT := hide hpts
  have hend := fun h f b fd => @best_end (points l) h f b fd
  generalize points l = L at HPT hp1 hp2 hend ⊢
  generalize Hash.hashN key.data.toList = h at hh ⊢
  have HEND := hide (hend h)
  have HH := hide hh
  clear hpts hc hg hh hend
  generalize ownerN (ring L) h = ans at HEND ⊢
  go_enter Tryz.func60, Tryz.ntmps60
  go_wp2_with fail
  refine (unhide HH _).mono ?_
  rintro e w1 ⟨rfl, rfl⟩
  go_wp2_with fail
  refine (unhide HPT _ (bel2 w1 _ _)).mono ?_
  rintro e w2 ⟨v, rfl, hown, hb2⟩
  simp only [World.size_alloc] at hown hb2
  obtain ⟨g, c, rfl, hg0, hgc, hrow⟩ := rowAt_own hown hp1
  have HR0 : Hid (OwnR' w1 w2 g L.length L zero zero) := by
    have e1 : Box2 (w1.alloc (.cells #[.int .u32 zero.pos, .string zero.name] 118)) w1.heap.size 118 zero := Box2.new w1 _ zero
    have e2 : Box2 ((w1.alloc (.cells #[.int .u32 zero.pos, .string zero.name] 118)).alloc (.cells #[.int .u32 zero.pos, .string zero.name] 118)) (w1.heap.size + 1) 118 zero := by
      have := Box2.new (w1.alloc (.cells #[.int .u32 zero.pos, .string zero.name] 118)) 118 zero
      simpa only [World.size_alloc] using this
    exact ⟨(e1.alloc _).below hb2 (by omega), e2.below hb2 (by omega), by omega, hrow, (bel2 w1 _ _).trans (hb2.mono (by omega))⟩
  clear hown hb2 hrow hgc
  go_wp2
  go_loopw [8, 18] (fun fv iv wr => ∃ (k : Nat) (f b : D) (fd : Bool), fv = .bool fd ∧ iv = .int .i64 (k : Int) ∧ k ≤ L.length ∧ Hid (Best L h k f b fd) ∧ Hid (OwnR' w1 wr g L.length L b f)) (fun _ iv _ => L.length - (intOf iv).toNat)
  case atStart => exact ⟨0, zero, zero, false, rfl, rfl, Nat.zero_le _, hide (best_start L h zero zero), HR0⟩
  case round =>
    clear HR0
    obtain ⟨k, f, b, fd, rfl, rfl, hkn, hst, hrr⟩ := hrel
    by_cases hlt : k < L.length
    · obtain ⟨c0, c1⟩ := at_pt (unhide hrr).row hlt
      have HST := hide (best_step (unhide hst) hlt)
      generalize L.getD k zero = x at c0 c1 HST
      have hS0 := (unhide hrr).point x
      have hglt := (unhide hrr).row.lt
      have hcl := fun w => less_any x f w
      by_cases hk0 : k = 0
      · subst hk0
        have ef : nf 0 x f = x := by unfold nf; rw [if_pos (.inl rfl)]
        rw [ef] at HST
        rw [Nat.zero_mul] at c0 c1
        have hS := ((unhide hrr).setFirst x).point x
        rw [show ((wr.setCell ⟨w1.heap.size + 1, 0, none⟩ (.int .u32 x.pos)).setCell ⟨w1.heap.size + 1, 1, none⟩ (.string x.name)).heap.size = wr.heap.size by simp [World.setCell]] at hS
        have y0 := (unhide hrr).first.c0
        have y1 := (unhide hrr).first.c1
        have y2 := (unhide hrr).first.fz 0
        have y3 := (unhide hrr).first.fz 1
        have y4 := (unhide hrr).first.lt
        have HSH := hide hS
        clear ef hcl hS0 hS
        go_upto_region 10 with fail
        have hS := unhide HSH
        clear HSH
        generalize (((wr.setCell ⟨w1.heap.size + 1, 0, none⟩ (.int .u32 x.pos)).setCell ⟨w1.heap.size + 1, 1, none⟩ (.string x.name)).alloc (.cells #[.int .u32 x.pos, .string x.name] 118)) = wx at hS ⊢
        clear y0 y1 y2 y3 y4 c0 c1
        have HBW := hide hS.best
        have HFW := hide hS.first
        have HPW := hide hS.pbox
        have d0 := hS.best.c0
        have d1 := hS.best.c1
        have d2 := hS.best.fz 0
        have d3 := hS.best.fz 1
        have d4 := hS.pbox.c0
        have d5 := hS.pbox.c1
        have l1 := hS.best.lt
        have l2 := hS.pbox.lt
        have l3 := hS.first.lt
        have HSX := hide hS
        clear hS
        by_cases hx : h ≤ x.pos
        · cases fd
          · have eb : nb h x b false = x := by unfold nb; rw [if_pos ⟨hx, .inl rfl⟩]
            have ed : nd h x b false = true := by unfold nd; rw [if_pos ⟨hx, .inl rfl⟩]
            have HST2 := hide (unhide HST)
            rw [eb, ed] at HST2
            have HS2 := hide ((unhide HSX).setBest x)
            clear eb ed HST
            go_wp2
            go_roundw
            case rel => exact ⟨0 + 1, _, x, true, rfl, by go_num, by omega, HST2, hide (unhide HS2).done⟩
            case measure => simp [intOf]; omega
          · have hcl2 := fun w => less_any x b w
            cases e2 : less x b
            · rw [e2] at hcl2
              have eb : nb h x b true = b := by unfold nb; rw [if_neg (by rintro ⟨_, hh | hh⟩; exact absurd hh (by simp); rw [e2] at hh; exact absurd hh (by simp))]
              have ed : nd h x b true = true := by unfold nd; split <;> rfl
              have HST2 := hide (unhide HST)
              rw [eb, ed] at HST2
              have HC2 := hide hcl2
              clear eb ed hcl2 e2 HST
              go_wp2_with fail
              refine (unhide HC2 _).mono ?_
              rintro e w3 ⟨rfl, hb3⟩
              have HS2 := hide ((unhide HSX).below hb3)
              clear hb3
              go_wp2
              go_roundw
              case rel => exact ⟨0 + 1, _, b, true, rfl, by go_num, by omega, HST2, hide (unhide HS2).done⟩
              case measure => simp [intOf]; omega
            · rw [e2] at hcl2
              have eb : nb h x b true = x := by unfold nb; rw [if_pos ⟨hx, .inr e2⟩]
              have ed : nd h x b true = true := by unfold nd; split <;> rfl
              have HST2 := hide (unhide HST)
              rw [eb, ed] at HST2
              have HC2 := hide hcl2
              clear eb ed hcl2 e2 HST
              go_wp2_with fail
              refine (unhide HC2 _).mono ?_
              rintro e w3 ⟨rfl, hb3⟩
              have HS2 := hide ((unhide HSX).below hb3)
              have HS3 := hide ((unhide HS2).setBest x)
              have d0 := (unhide HS2).best.c0
              have d1 := (unhide HS2).best.c1
              have d2 := (unhide HS2).best.fz 0
              have d3 := (unhide HS2).best.fz 1
              have d4 := (unhide HS2).pbox.c0
              have d5 := (unhide HS2).pbox.c1
              have l4 := (unhide HS2).best.lt
              have l5 := (unhide HS2).pbox.lt
              clear hb3
              go_wp2
              go_roundw
              case rel => exact ⟨0 + 1, _, x, true, rfl, by go_num, by omega, HST2, hide (unhide HS3).done⟩
              case measure => simp [intOf]; omega
        · have eb : nb h x b fd = b := by unfold nb; rw [if_neg (fun hh => hx hh.1)]
          have ed : nd h x b fd = fd := by unfold nd; rw [if_neg (fun hh => hx hh.1)]
          have HST2 := hide (unhide HST)
          rw [eb, ed] at HST2
          clear eb ed HST
          go_wp2
          go_roundw
          case rel => exact ⟨0 + 1, _, b, fd, rfl, by go_num, by omega, HST2, hide (unhide HSX).done⟩
          case measure => simp [intOf]; omega
      · have hk1 : ((k : Int) == 0) = false := by simp; omega
        have HS0 := hide hS0
        have y0 := (unhide hrr).first.c0
        have y1 := (unhide hrr).first.c1
        have y4 := (unhide hrr).first.lt
        cases e1 : less x f
        · rw [e1] at hcl
          have ef : nf k x f = f := by unfold nf; rw [if_neg (by rintro (hh | hh); exact hk0 hh; rw [e1] at hh; exact absurd hh (by simp))]
          rw [ef] at HST
          have HC1 := hide hcl
          clear ef hcl hS0 e1
          go_wp2_with fail
          refine (unhide HC1 _).mono ?_
          rintro e wx ⟨rfl, hbx⟩
          have hS := (unhide HS0).below hbx
          clear hbx y0 y1 y4 c0 c1 HS0
          go_upto_region 10 with fail
          have HBW := hide hS.best
          have HFW := hide hS.first
          have HPW := hide hS.pbox
          have d0 := hS.best.c0
          have d1 := hS.best.c1
          have d2 := hS.best.fz 0
          have d3 := hS.best.fz 1
          have d4 := hS.pbox.c0
          have d5 := hS.pbox.c1
          have l1 := hS.best.lt
          have l2 := hS.pbox.lt
          have l3 := hS.first.lt
          have HSX := hide hS
          clear hS
          by_cases hx : h ≤ x.pos
          · cases fd
            · have eb : nb h x b false = x := by unfold nb; rw [if_pos ⟨hx, .inl rfl⟩]
              have ed : nd h x b false = true := by unfold nd; rw [if_pos ⟨hx, .inl rfl⟩]
              have HST2 := hide (unhide HST)
              rw [eb, ed] at HST2
              have HS2 := hide ((unhide HSX).setBest x)
              clear eb ed HST
              go_wp2
              go_roundw
              case rel => exact ⟨k + 1, _, x, true, rfl, by go_num, by omega, HST2, hide (unhide HS2).done⟩
              case measure => simp [intOf]; omega
            · have hcl2 := fun w => less_any x b w
              cases e2 : less x b
              · rw [e2] at hcl2
                have eb : nb h x b true = b := by unfold nb; rw [if_neg (by rintro ⟨_, hh | hh⟩; exact absurd hh (by simp); rw [e2] at hh; exact absurd hh (by simp))]
                have ed : nd h x b true = true := by unfold nd; split <;> rfl
                have HST2 := hide (unhide HST)
                rw [eb, ed] at HST2
                have HC2 := hide hcl2
                clear eb ed hcl2 e2 HST
                go_wp2_with fail
                refine (unhide HC2 _).mono ?_
                rintro e w3 ⟨rfl, hb3⟩
                have HS2 := hide ((unhide HSX).below hb3)
                clear hb3
                go_wp2
                go_roundw
                case rel => exact ⟨k + 1, _, b, true, rfl, by go_num, by omega, HST2, hide (unhide HS2).done⟩
                case measure => simp [intOf]; omega
              · rw [e2] at hcl2
                have eb : nb h x b true = x := by unfold nb; rw [if_pos ⟨hx, .inr e2⟩]
                have ed : nd h x b true = true := by unfold nd; split <;> rfl
                have HST2 := hide (unhide HST)
                rw [eb, ed] at HST2
                have HC2 := hide hcl2
                clear eb ed hcl2 e2 HST
                go_wp2_with fail
                refine (unhide HC2 _).mono ?_
                rintro e w3 ⟨rfl, hb3⟩
                have HS2 := hide ((unhide HSX).below hb3)
                have HS3 := hide ((unhide HS2).setBest x)
                have d0 := (unhide HS2).best.c0
                have d1 := (unhide HS2).best.c1
                have d2 := (unhide HS2).best.fz 0
                have d3 := (unhide HS2).best.fz 1
                have d4 := (unhide HS2).pbox.c0
                have d5 := (unhide HS2).pbox.c1
                have l4 := (unhide HS2).best.lt
                have l5 := (unhide HS2).pbox.lt
                clear hb3
                go_wp2
                go_roundw
                case rel => exact ⟨k + 1, _, x, true, rfl, by go_num, by omega, HST2, hide (unhide HS3).done⟩
                case measure => simp [intOf]; omega
          · have eb : nb h x b fd = b := by unfold nb; rw [if_neg (fun hh => hx hh.1)]
            have ed : nd h x b fd = fd := by unfold nd; rw [if_neg (fun hh => hx hh.1)]
            have HST2 := hide (unhide HST)
            rw [eb, ed] at HST2
            clear eb ed HST
            go_wp2
            go_roundw
            case rel => exact ⟨k + 1, _, b, fd, rfl, by go_num, by omega, HST2, hide (unhide HSX).done⟩
            case measure => simp [intOf]; omega
        · rw [e1] at hcl
          have ef : nf k x f = x := by unfold nf; rw [if_pos (.inr e1)]
          rw [ef] at HST
          have HC1 := hide hcl
          clear ef hcl hS0 e1
          go_wp2_with fail
          refine (unhide HC1 _).mono ?_
          rintro e wy ⟨rfl, hbx⟩
          have hSy := (unhide HS0).below hbx
          have z0 := hSy.first.c0
          have z1 := hSy.first.c1
          have z2 := hSy.first.fz 0
          have z3 := hSy.first.fz 1
          have z4 := hSy.pbox.c0
          have z5 := hSy.pbox.c1
          have z6 := hSy.first.lt
          have z7 := hSy.pbox.lt
          have HSH := hide (hSy.setFirst x)
          clear hbx y0 y1 y4 c0 c1 HS0 hSy
          go_upto_region 10 with fail
          have hS := unhide HSH
          clear HSH
          generalize ((wy.setCell ⟨w1.heap.size + 1, 0, none⟩ (.int .u32 x.pos)).setCell ⟨w1.heap.size + 1, 1, none⟩ (.string x.name)) = wx at hS ⊢
          clear z0 z1 z2 z3 z4 z5 z6 z7
          have HBW := hide hS.best
          have HFW := hide hS.first
          have HPW := hide hS.pbox
          have d0 := hS.best.c0
          have d1 := hS.best.c1
          have d2 := hS.best.fz 0
          have d3 := hS.best.fz 1
          have d4 := hS.pbox.c0
          have d5 := hS.pbox.c1
          have l1 := hS.best.lt
          have l2 := hS.pbox.lt
          have l3 := hS.first.lt
          have HSX := hide hS
          clear hS
          by_cases hx : h ≤ x.pos
          · cases fd
            · have eb : nb h x b false = x := by unfold nb; rw [if_pos ⟨hx, .inl rfl⟩]
              have ed : nd h x b false = true := by unfold nd; rw [if_pos ⟨hx, .inl rfl⟩]
              have HST2 := hide (unhide HST)
              rw [eb, ed] at HST2
              have HS2 := hide ((unhide HSX).setBest x)
              clear eb ed HST
              go_wp2
              go_roundw
              case rel => exact ⟨k + 1, _, x, true, rfl, by go_num, by omega, HST2, hide (unhide HS2).done⟩
              case measure => simp [intOf]; omega
            · have hcl2 := fun w => less_any x b w
              cases e2 : less x b
              · rw [e2] at hcl2
                have eb : nb h x b true = b := by unfold nb; rw [if_neg (by rintro ⟨_, hh | hh⟩; exact absurd hh (by simp); rw [e2] at hh; exact absurd hh (by simp))]
                have ed : nd h x b true = true := by unfold nd; split <;> rfl
                have HST2 := hide (unhide HST)
                rw [eb, ed] at HST2
                have HC2 := hide hcl2
                clear eb ed hcl2 e2 HST
                go_wp2_with fail
                refine (unhide HC2 _).mono ?_
                rintro e w3 ⟨rfl, hb3⟩
                have HS2 := hide ((unhide HSX).below hb3)
                clear hb3
                go_wp2
                go_roundw
                case rel => exact ⟨k + 1, _, b, true, rfl, by go_num, by omega, HST2, hide (unhide HS2).done⟩
                case measure => simp [intOf]; omega
              · rw [e2] at hcl2
                have eb : nb h x b true = x := by unfold nb; rw [if_pos ⟨hx, .inr e2⟩]
                have ed : nd h x b true = true := by unfold nd; split <;> rfl
                have HST2 := hide (unhide HST)
                rw [eb, ed] at HST2
                have HC2 := hide hcl2
                clear eb ed hcl2 e2 HST
                go_wp2_with fail
                refine (unhide HC2 _).mono ?_
                rintro e w3 ⟨rfl, hb3⟩
                have HS2 := hide ((unhide HSX).below hb3)
                have HS3 := hide ((unhide HS2).setBest x)
                have d0 := (unhide HS2).best.c0
                have d1 := (unhide HS2).best.c1
                have d2 := (unhide HS2).best.fz 0
                have d3 := (unhide HS2).best.fz 1
                have d4 := (unhide HS2).pbox.c0
                have d5 := (unhide HS2).pbox.c1
                have l4 := (unhide HS2).best.lt
                have l5 := (unhide HS2).pbox.lt
                clear hb3
                go_wp2
                go_roundw
                case rel => exact ⟨k + 1, _, x, true, rfl, by go_num, by omega, HST2, hide (unhide HS3).done⟩
                case measure => simp [intOf]; omega
          · have eb : nb h x b fd = b := by unfold nb; rw [if_neg (fun hh => hx hh.1)]
            have ed : nd h x b fd = fd := by unfold nd; rw [if_neg (fun hh => hx hh.1)]
            have HST2 := hide (unhide HST)
            rw [eb, ed] at HST2
            clear eb ed HST
            go_wp2
            go_roundw
            case rel => exact ⟨k + 1, _, b, fd, rfl, by go_num, by omega, HST2, hide (unhide HSX).done⟩
            case measure => simp [intOf]; omega
    · obtain rfl : k = L.length := by omega
      have HE := hide (unhide HEND f b fd (unhide hst) hp1)
      have d0 := (unhide hrr).best.c0
      have d1 := (unhide hrr).best.c1
      have d2 := (unhide hrr).first.c0
      have d3 := (unhide hrr).first.c1
      cases fd
      · have HE2 : Hid (ans = f.name) := unhide HE
        go_wp2
        go_ret
        exact ⟨ret_str (unhide HE2).symm, (unhide hrr).bel⟩
      · have HE2 : Hid (ans = b.name) := unhide HE
        go_wp2
        go_ret
        exact ⟨ret_str (unhide HE2).symm, (unhide hrr).bel⟩

end Ring
end Go.Proofs.YtghckjmpcokhcaaGreatDoor
/-
  The model's l6Split and SplitKeys: the keys of each node, in rows of their own.
-/
namespace Go.Proofs.YtghckjmpcokhcaaGreatDoor
namespace Split
open Go.RowKit Base Marks OwnR KeysS Ring Parts
set_option linter.unusedVariables false

/-- What the search among the parts has found behind j of them. -/
def seek (f : Option Nat) (j : Nat) : Int := match f with | none => -1 | some q => if q < j then (q : Int) else -1
theorem seek_zero (f : Option Nat) : seek f 0 = -1 := by unfold seek; split <;> simp
theorem seek_hit {q : Nat} : seek (some q) (q + 1) = q := by unfold seek; simp
theorem seek_miss {f : Option Nat} {j : Nat} (h : ∀ q, f = some q → j ≠ q) : seek f (j + 1) = seek f j := by
  unfold seek
  cases f with
  | none => rfl
  | some q =>
    have := h q rfl
    dsimp only
    by_cases e : q < j
    · rw [if_pos e, if_pos (by omega)]
    · rw [if_neg e, if_neg (by omega)]
theorem seek_bd (f : Option Nat) (j : Nat) (n : Nat) (h : ∀ q, f = some q → q < n) : -1 ≤ seek f j ∧ seek f j < n + 1 := by
  unfold seek
  cases f with
  | none => dsimp only; omega
  | some q => have := h q rfl; dsimp only; split <;> omega
theorem seek_some {q n : Nat} (h : q < n) : seek (some q) n = q := by show (if q < n then (q : Int) else -1) = q; rw [if_pos h]
/-- Which part has the owner of key k. -/
theorem who {l : List Nodes.D} {ks : List ByteArray} {k n : Nat} {p : Nat → Pt} (hk : k < ks.length) (ht : Tells n p (parts (owners l ks) ks k)) :
    ∃ f : Option Nat, (∀ q, f = some q → q < n) ∧ (∀ j, j < n → ((p j).node = ownK l (ks.getD k ByteArray.empty) ↔ f = some j)) ∧
      (f = none → parts (owners l ks) ks (k + 1) = parts (owners l ks) ks k ++ [⟨ownK l (ks.getD k ByteArray.empty), [ks.getD k ByteArray.empty]⟩]) ∧
      (∀ q, f = some q → parts (owners l ks) ks (k + 1) = (parts (owners l ks) ks k).set q ⟨ownK l (ks.getD k ByteArray.empty), (p q).ks ++ [ks.getD k ByteArray.empty]⟩) := by
  have hn : n = (firsts (owners l ks) k).length := by rw [ht.1, parts_len]
  have ho := owners_at (l := l) hk
  have hkk : ow ks k = ks.getD k ByteArray.empty := rfl
  have hnode : ∀ j, j < n → (p j).node = ow (owners l ks) ((firsts (owners l ks) k).getD j 0) := fun j hj => by
    rw [(ht.2 j hj).1, parts_get (by omega)]; rfl
  by_cases hf : firstB (owners l ks) k = true
  · refine ⟨none, by simp, fun j hj => ?_, fun _ => ?_, by simp⟩
    · rw [hnode j hj, ← ho]
      refine ⟨fun e => ?_, by simp⟩
      have hm : (firsts (owners l ks) k).getD j 0 ∈ firsts (owners l ks) k := by
        rw [List.getD_eq_getElem?_getD, List.getElem?_eq_getElem (by omega)]; exact List.getElem_mem _
      exact absurd e ((firstB_iff _ _).1 hf _ (firsts_mem.1 hm).1)
    · rw [parts_first hf, ho, hkk]
  · obtain ⟨q, hq, he, hu⟩ := at_ex hf
    refine ⟨some q, fun q' e => by simp at e; omega, fun j hj => ?_, by simp, fun q' e => ?_⟩
    · rw [hnode j hj, ← ho]
      constructor
      · intro e; rw [hu j (by omega) e]
      · intro e; simp at e; subst e; exact he
    · simp at e; subst e
      rw [parts_more hf hq he hu, ho, hkk, (ht.2 q (by omega)).2]

theorem keys_len (os ks : List ByteArray) (n i : Nat) : ((parts os ks n).getD i zeroP).keys.length ≤ n := by
  by_cases h : i < (firsts os n).length
  · rw [parts_get h]
    simp only [partAt, List.length_map]
    exact places_le _ _ _
  · rw [List.getD_eq_getElem?_getD, List.getElem?_eq_none (by rw [parts_len]; omega)]
    exact Nat.zero_le _
theorem cell_one_new_z (w : World) (t : TypeId) (s : ByteArray) : (w.alloc (.cells #[.string s] t)).cell? ⟨w.heap.size, 0, none⟩ = some (.string s) := by
  rw [World.cell?_alloc_new]; rfl
theorem str_pair (s : ByteArray) (v : Value) (hv : v.oneCell' = true) : ∀ u ∈ [Value.string s, v], u.oneCell' = true := by
  intro u hu
  simp at hu
  rcases hu with rfl | rfl
  · rfl
  · exact hv
theorem news_two {w : World} {t : TypeId} {s : ByteArray} {v : Value} (j : Nat) (u : Value) (hj : [Value.string s, v][j]? = some u) : (w.alloc (.cells #[.string s, v] t)).cell? ((⟨w.heap.size, 0, none⟩ : Addr).add j) = some u := by
  rw [Go.WideShapes.add_plain, Nat.zero_add, World.cell?_alloc_new]
  match j with
  | 0 => simpa using hj
  | 1 => simpa using hj
  | j + 2 => simp at hj
theorem out_app {w w' : World} {B : Nat} {v v' : Value} {n : Nat} {p : Nat → Pt} {r : Option Nat} (h : Out w B v n p) (hg : w.grownBy w' v.ownBlock) : ∀ i, i < n → RowAt w' (p i).g 9 (p i).ks.length (StringsW.scell (p i).ks) ∧ B ≤ (p i).g := by
  intro i hi
  refine ⟨(h.2.1 i hi).1.of_block (hg.block _ (h.2.1 i hi).1.lt (fun e => ?_)), (h.2.1 i hi).2⟩
  obtain ⟨a, c, rfl⟩ := h.form
  obtain ⟨_, ho⟩ := h.own
  rcases ho with h0 | ⟨g, rfl, hrd, hap⟩
  · omega
  · have := (hap.2.1 i hi).2
    simp only [Value.ownBlock, Option.some.injEq] at e
    exact this e

set_option maxRecDepth 10000 in
set_option maxHeartbeats 4000000 in
theorem l6Split_some (b off cap : Nat) (l : List Nodes.D) (kb ko kc : Nat) (ks : List ByteArray) (w : World) (hb : b < w.heap.size) (hc : ∀ i, i < l.length → Nodes.At w b (off + i * 2) (l.getD i Nodes.zero)) (hg : NodesM.gnB l = true)
    (hkb : kb < w.heap.size) (hkc : ∀ i, i < ks.length → w.cell? ⟨kb, ko + i, none⟩ = some (.string (ks.getD i ByteArray.empty))) (hk : kB ks = true) :
    Calls Tryz.prog 28 #[.slice (some ⟨b, off, none⟩) l.length cap, .slice (some ⟨kb, ko, none⟩) ks.length kc] w fun e w' =>
      ∃ v n p, e = .returned v ∧ Out w' w.heap.size v n p ∧ Tells n p (parts (owners l ks) ks ks.length) ∧ Below w.heap.size w w' := by
  have HO := hide (fun (key : ByteArray) w1 (hb1 : Below w.heap.size w w1) hk => mowner_some b off cap l key w1 (Nat.lt_of_lt_of_le hb (Below.size hb1)) (fun i hi => (hc i hi).below hb1 hb) hg hk)
  have HKC := hide hkc
  have hk60 := (kB_len hk).1
  have HKS := hide (fun k hkk => key_size hk (k := k) hkk)
  obtain ⟨i0, hi, hz0, hz1, hz2⟩ := Parts.info_ex
  have HI := hide hi
  have HZ0 := hide hz0
  have HZ1 := hide hz1
  have HZ2 := hide hz2
  clear hi hz0 hz1 hz2 hc hg hkc hk
  go_enter Tryz.func28, Tryz.ntmps28
  go_wp2
  go_loopw [5, 14] (fun v iv wr => ∃ (k n : Nat) (p : Nat → Pt), k ≤ ks.length ∧ n ≤ k ∧ iv = .int .i64 (k : Int) ∧ Hid (Out wr w.heap.size v n p) ∧ Hid (Tells n p (parts (owners l ks) ks k)) ∧ Hid (Below w.heap.size w wr)) (fun _ iv _ => ks.length - (intOf iv).toNat)
  case atStart => exact ⟨0, 0, fun _ => ⟨ByteArray.empty, 0, 0, []⟩, Nat.zero_le _, Nat.le_refl _, rfl, hide (Out.nil _ _ _), hide ⟨rfl, fun i hi => absurd hi (by omega)⟩, hide (Below.refl _ _)⟩
  case round =>
    obtain ⟨k, n, p, hk, hnk, rfl, hout, htl, hbel⟩ := hrel
    obtain ⟨ao, co, rfl⟩ := (unhide hout).form
    by_cases hlt : k < ks.length
    · have hck := ((unhide hbel).cell (p := ⟨kb, ko + k, none⟩) hkb).trans (unhide HKC k hlt)
      have hss := unhide HKS k hlt
      obtain ⟨f, hf1, hf2, hf3, hf4⟩ := who hlt (unhide htl)
      have hF2 := hide hf2
      have hF3 := hide hf3
      have hF4 := hide hf4
      clear hf2 hf3 hf4
      have hsn := hide (fun x => @tells_snoc n p (parts (owners l ks) ks k) x (unhide htl))
      have hst := hide (fun x q y => @tells_set n p (parts (owners l ks) ks k) x q (unhide htl) y)
      have hpl := hide (fun i hi => ((unhide htl).2 i hi).2)
      have HLEN : Hid (∀ i, ((parts (owners l ks) ks k).getD i zeroP).keys.length ≤ 60) := fun i => Nat.le_trans (keys_len _ _ _ _) (by omega)
      generalize hPK1 : parts (owners l ks) ks (k + 1) = PK1 at hF3 hF4
      have HPK1 := hide hPK1
      generalize parts (owners l ks) ks k = PK at hF3 hF4 hsn hst hpl HLEN
      clear hPK1 htl
      have hsm : (ks.getD k ByteArray.empty).size ≤ maxLen := by unfold maxLen; omega
      have hcO := fun w1 hb1 => unhide HO (ks.getD k ByteArray.empty) w1 hb1 hsm
      have eO : ownerN (ring (points l)) (Hash.hashN (ks.getD k ByteArray.empty).data.toList) = ownK l (ks.getD k ByteArray.empty) := rfl
      rw [eO] at hcO
      clear eO
      generalize ownK l (ks.getD k ByteArray.empty) = nm at hcO hF2 hF3 hF4
      generalize ks.getD k ByteArray.empty = s at hck hss hF3 hF4 hcO hsm
      have HCO := hide hcO
      clear hcO
      go_wp2_with fail
      refine (unhide HCO _ (unhide hbel)).mono ?_
      rintro e wa ⟨rfl, hb1⟩
      have B1 := hide ((unhide hbel).trans (hb1.mono (unhide hbel).size))
      have O1 := hide ((unhide hout).below hb1)
      clear hb1 hout hbel hck
      have hsb := fun j => seek_bd f j n hf1
      go_wp2
      generalize hwz : wa.heap.size = bz
      go_loopw [9, 23] (fun av jv wr => ∃ j : Nat, j ≤ n ∧ jv = .int .i64 (j : Int) ∧ av = .int .i64 (seek f j) ∧ Hid (Below bz wa wr)) (fun _ jv _ => n - (intOf jv).toNat)
      case atStart => exact ⟨0, Nat.zero_le _, rfl, by rw [seek_zero], hide (Below.refl _ _)⟩
      case round =>
        obtain ⟨j, hj, rfl, rfl, hbj⟩ := hrel
        have OJ := hide ((unhide O1).below (by rw [hwz]; exact unhide hbj))
        have hzj := (unhide hbj).size
        by_cases hjn : j < n
        · obtain ⟨_, ho⟩ := (unhide OJ).own
          obtain ⟨g, rfl, hrd, hap⟩ := ho.resolve_left (by omega)
          have c0 : wr.cell? ⟨g, j * 2, none⟩ = some (.string (p j).node) := by rw [hrd.1.cell (by omega), pc0]
          have c1 : wr.cell? ⟨g, j * 2 + 1, none⟩ = some (.slice (some ⟨(p j).g, 0, none⟩) (p j).ks.length (p j).cap) := by rw [hrd.1.cell (by omega), pc1]
          have hgl := hrd.1.lt
          clear ho hrd hap
          have hiff := unhide hF2 j hjn
          have hB2 := hide ((unhide hbj).alloc (by omega) (.cells #[.string (p j).node, .slice (some ⟨(p j).g, 0, none⟩) (p j).ks.length (p j).cap] 31))
          by_cases hx : (p j).node = nm
          · have hq := hiff.1 hx
            have hx' := str_eq hx
            have hsk : seek f (j + 1) = j := by rw [hq]; exact seek_hit
            generalize (p j).node = nd at c0 hx' hB2
            generalize (p j).g = gj at c1 hB2
            generalize (p j).ks.length = lj at c1 hB2
            generalize (p j).cap = cj at c1 hB2
            clear hx hiff hq
            go_wp2
            go_roundw
            case rel => exact ⟨j + 1, by omega, by go_num, by rw [hsk], hB2⟩
            case measure => simp [intOf]; omega
          · have hx' := str_ne hx
            have hsk : seek f (j + 1) = seek f j := seek_miss (fun q e h => hx (hiff.2 (by rw [h]; exact e)))
            generalize (p j).node = nd at c0 hx' hB2
            generalize (p j).g = gj at c1 hB2
            generalize (p j).ks.length = lj at c1 hB2
            generalize (p j).cap = cj at c1 hB2
            clear hx hiff
            generalize seek f j = sj at hsk ⊢
            go_wp2
            go_roundw
            case rel => exact ⟨j + 1, by omega, by go_num, by rw [hsk], hB2⟩
            case measure => simp [intOf]; omega
        · obtain rfl : j = n := by omega
          have B2 := hide ((unhide B1).trans ((unhide hbj).mono (by have := (unhide B1).size; omega)))
          clear B1 O1 hbj HCO
          have hB0 := (unhide B2).size
          obtain ⟨W, hW⟩ : ∃ W, W = wr := ⟨_, rfl⟩
          subst hW
          cases f with
          | none =>
            have hsk : seek none j = -1 := rfl
            have HT : Hid (PK1 = PK ++ [⟨nm, [s]⟩]) := unhide hF3 rfl
            clear hF3 hF4 hsb
            rw [hsk]
            clear hsk
            obtain ⟨h1, h2, h3⟩ := unhide OJ
            have HD := hide h3
            have HP0 := hide h1
            clear h1 h2 h3 hst hpl
            go_wp2_with (at_builtin; go_loud (refine wpList_append_own _ rfl _ _ 27 rfl w.heap.size 31 i0 _ 2 40 Tryz.underlying27 (unhide HI) (unhide HZ0) (unhide HZ1) (unhide HZ2) rfl (by decide) _ _ _ rfl ((unhide HP0).alloc _) ⟨W.heap.size, 0, none⟩ 1 1 [.string nm, .slice none 0 0] rfl rfl news_two (str_pair nm _ rfl) ?c3 ?c4 ?c5 ?_))
            case c3 => unfold maxLen; omega
            case c4 => omega
            case c5 => simp; omega
            intro v' we hown' hgrow _
            have hK := hide (out_app (v' := v') (r := none) ⟨(unhide OJ).1.alloc _, fun i hi => ⟨((unhide OJ).2.1 i hi).1.below (bel1 W _) ((unhide OJ).2.1 i hi).1.lt, ((unhide OJ).2.1 i hi).2⟩, (unhide OJ).2.2⟩ hgrow)
            have C4 := hide (((unhide B2).alloc hB0 _).grown hgrow (by simp; omega) (own_block (unhide OJ).1))
            obtain ⟨g, cap', rfl, hgB, hgc, hgl⟩ := own_some hown' (by omega)
            have HO' := hide hown'
            have c1 : we.cell? ⟨g, j * 2 + 1, none⟩ = some (.slice none 0 0) := cell_own hown' (j * 2 + 1) _ (by rw [List.getElem?_append_right (by rw [pflat_len]; omega), pflat_len, show j * 2 + 1 - j * 2 = 1 by omega]; rfl)
            clear hown' hgrow OJ HP0 B2
            have hBe := (unhide C4).size
            have E1 := hide (StrR.row_empty we (Nat.le_refl we.heap.size))
            have S1 : Hid (StrR.Src (we.alloc (.cells #[] 9)) none 0 0 []) := .inl ⟨rfl, rfl, rfl, rfl⟩
            go_wp2_with (at_builtin; go_loud (refine StrR.list_src _ rfl (.tmp 45) (.tmp 50) rfl we.heap.size we.heap.size 0 0 [] rfl (unhide E1) rfl none 0 0 [] rfl (unhide S1) 0 (by omega) (by omega) (by simp) ?_))
            intro g1 c1' w1 hown1 hg1
            have HB1 := hide ((bel1 we _).grown hg1 (by simp) (fun k e => by simp at e; omega))
            have E2 := hide hown1
            have hg1B := hown1.lt
            have hw1 := (unhide HB1).size
            clear hown1 hg1 E1 S1
            go_wp2_with (at_builtin; go_loud (refine StrR.list_src _ rfl (.tmp 51) (.tmp 53) rfl we.heap.size g1 c1' 0 [] rfl (own_below (unhide E2) (bel1 w1 _) (Nat.le_refl _)) rfl (some ⟨w1.heap.size, 0, none⟩) 1 1 [s] rfl (StrR.src_one (cell_one_new_z _ _ _)) 1 (by omega) (by omega) (by simp; omega) ?_))
            intro g2 c2 w2 hown2 hg2
            have HB2 := hide (((unhide HB1).alloc hw1 _).grown hg2 (by simp; omega) (fun k e => by simp at e; omega))
            have hrow2 := (StrR.own_row hown2).2
            have hg2B := hown2.lt
            clear hown2 hg2
            have e1 := ((unhide HB2).cell (p := ⟨g, j * 2 + 1, none⟩) hgl).trans c1
            have hff := (frozen_own (own_below (unhide HO') (unhide HB2) (Nat.le_refl _)) (j * 2 + 1)).1
            have HNEW := hide (out_new (c2 := c2) (m := 1) (nm := nm) (unhide HO') (unhide hK) (unhide HD) (unhide HB2) hrow2 hg2B.2 rfl hBe)
            have HTN : Hid (Tells (j + 1) (upd p j ⟨nm, g2, c2, [s]⟩) PK1) := by rw [unhide HT]; exact unhide hsn _ ⟨nm, [s]⟩ rfl rfl
            have C5 := hide (((unhide C4).trans ((unhide HB2).mono hBe)).setCell (p := ⟨g, j * 2 + 1, none⟩) hgB (.slice (some ⟨g2, 0, none⟩) 1 c2))
            have hw2 := (unhide HB2).size
            have hgl2 : g < w2.heap.size := by omega
            clear hrow2 HB1 HB2 E2 hK HD HO' C4 hsn HT c1
            go_wp2
            go_roundw
            case rel => exact ⟨k + 1, j + 1, _, by omega, by omega, by go_num, HNEW, (by rw [unhide HPK1]; exact HTN), C5⟩
            case measure => simp [intOf]; omega
          | some q =>
            have hq := hf1 q rfl
            rw [seek_some hq]
            have HT : Hid (PK1 = PK.set q ⟨nm, (p q).ks ++ [s]⟩) := unhide hF4 q rfl
            clear hF3 hF4 hsb
            obtain ⟨_, ho⟩ := (unhide OJ).own
            obtain ⟨g, rfl, hrd, hap⟩ := ho.resolve_left (by omega)
            have c1 : W.cell? ⟨g, q * 2 + 1, none⟩ = some (.slice (some ⟨(p q).g, 0, none⟩) (p q).ks.length (p q).cap) := by rw [hrd.1.cell (by omega), pc1]
            have hgl := hrd.1.lt
            have hgB := hap.1
            have hkr := hrd.2 q hq
            have E1 := hide (StrR.row_empty W (Nat.le_refl W.heap.size))
            have S1 : Hid (StrR.Src (W.alloc (.cells #[] 9)) (some ⟨(p q).g, 0, none⟩) (p q).ks.length (p q).cap (p q).ks) := StrR.src_row (hkr.below (bel1 W _) hkr.lt) rfl
            have hnd : Hid ((p q).node = nm) := (unhide hF2 q hq).2 rfl
            have hkl : (p q).ks.length ≤ 60 := by
              rw [unhide hpl q hq]; exact unhide HLEN q
            have HUPD := hide (fun w4 g2 c2 m hb hrow hg2 hm => @out_upd W w4 w.heap.size g co j q g2 c2 m p ((p q).ks ++ [s]) (unhide OJ) hq hb hrow hg2 hm hB0)
            have HTS := hide (fun g2 c2 => unhide hst ⟨(p q).node, g2, c2, (p q).ks ++ [s]⟩ q ⟨nm, (p q).ks ++ [s]⟩ (unhide hnd) rfl hq)
            have hone := hide (fun w' (h : Below W.heap.size W w') => (frozen_own (own_below (unhide OJ).1 h (Nat.le_refl _)) (q * 2 + 1)).1)
            clear ho hrd hap hkr hsn hst hpl
            generalize (p q).node = nd at hnd HUPD HTS
            generalize (p q).g = gq at c1 S1
            generalize (p q).cap = cq at c1 S1
            generalize (p q).ks = K at c1 S1 hkl HUPD HTS HT
            go_wp2_with (at_builtin; go_loud (refine StrR.list_src _ rfl (.tmp 45) (.tmp 50) rfl W.heap.size W.heap.size 0 0 [] rfl (unhide E1) rfl (some ⟨gq, 0, none⟩) K.length cq K rfl (unhide S1) K.length (by omega) (by omega) (by simp) ?_))
            intro g1 c1' w1 hown1 hg1
            have HB1 := hide ((bel1 W _).grown hg1 (by simp) (fun k e => by simp at e; omega))
            have E2 := hide hown1
            have hg1B := hown1.lt
            have hw1 := (unhide HB1).size
            clear hown1 hg1 E1 S1
            go_wp2_with (at_builtin; go_loud (refine StrR.list_src _ rfl (.tmp 51) (.tmp 53) rfl W.heap.size g1 c1' K.length K rfl (own_below (unhide E2) (bel1 w1 _) (Nat.le_refl _)) rfl (some ⟨w1.heap.size, 0, none⟩) 1 1 [s] rfl (StrR.src_one (cell_one_new_z _ _ _)) (K.length + 1) (by omega) (by omega) (by simp; omega) ?_))
            intro g2 c2 w2 hown2 hg2
            have HB2 := hide (((unhide HB1).alloc hw1 _).grown hg2 (by simp; omega) (fun k e => by simp at e; omega))
            have hrow2 := (StrR.own_row hown2).2
            have hg2B := hown2.lt
            clear hown2 hg2
            have e1 := ((unhide HB2).cell (p := ⟨g, q * 2 + 1, none⟩) hgl).trans c1
            have hff := unhide hone _ (unhide HB2)
            have HNEW := hide (unhide HUPD w2 g2 c2 (K.length + 1) (unhide HB2) hrow2 hg2B.2 (by simp))
            have HTN : Hid (Tells j (upd p q ⟨nd, g2, c2, K ++ [s]⟩) PK1) := by rw [unhide HT]; exact unhide HTS g2 c2
            have C5 := hide (((unhide B2).trans ((unhide HB2).mono hB0)).setCell (p := ⟨g, q * 2 + 1, none⟩) hgB (.slice (some ⟨g2, 0, none⟩) (K.length + 1) c2))
            have hw2 := (unhide HB2).size
            have hgl2 : g < w2.heap.size := by omega
            clear hrow2 HB1 HB2 E2 B2 HUPD HTS hone HT c1
            go_wp2
            go_roundw
            case rel => exact ⟨k + 1, j, _, by omega, by omega, by go_num, HNEW, (by rw [unhide HPK1]; exact HTN), C5⟩
            case measure => simp [intOf]; omega
    · obtain rfl : k = ks.length := by omega
      go_wp2
      go_ret
      exact ⟨_, _, p, rfl, unhide hout, unhide htl, unhide hbel⟩
end Split
end Go.Proofs.YtghckjmpcokhcaaGreatDoor
