/-
  The program's sortedBy: the ring of a list of points, in a row of its own.
-/
import Derived.Test.YtpihkjpnaefacaaGreatDoorRingV
import Derived.Test.YtpihkjpnaefacaaGreatDoorRingA
import Derived.Deep.DeepCutAuto
namespace Go.Proofs.YtpihkjpnaefacaaGreatDoor
namespace Ring
open Go.RowKit Base Points NumText Marks OwnR PointsW
set_option linter.unusedVariables false

/-- Two rows of one length behind what was there. -/
structure Two (w wx : World) (n g h c c' : Nat) (L : List D) (F : Nat → Value) : Prop where
  g0 : w.heap.size ≤ g
  h0 : w.heap.size ≤ h
  ne : h ≠ g
  len : L.length = n
  cg : n ≤ c
  ch : n ≤ c'
  from' : RowAt wx g 104 (n * 2) (icell L)
  to' : RowAt wx h 104 (n * 2) F
  below : Below w.heap.size w wx

theorem Two.drew {w wx : World} {n g h c c' : Nat} {L : List D} {F : Nat → Value} (t : Two w wx n g h c c' L F) : Two w wx.drew n g h c c' L F :=
  ⟨t.g0, t.h0, t.ne, t.len, t.cg, t.ch, t.from'.of_block rfl, t.to'.of_block rfl, t.below.drew⟩
theorem Two.merged {w wx wy : World} {n g h c c' : Nat} {L : List D} {F G : Nat → Value} (t : Two w wx n g h c c' L F) (hr : RowAt wy h 104 (n * 2) G) (hg : wx.grownBy wy (some h)) : Two w wy n g h c c' L G :=
  ⟨t.g0, t.h0, t.ne, t.len, t.cg, t.ch, t.from'.gb hg (fun e => t.ne e.symm), hr, below_gb t.below hg t.below.size t.h0⟩
theorem Two.swap {w wx : World} {n g h c c' : Nat} {L T : List D} {F : Nat → Value} (t : Two w wx n g h c c' L (over F 0 T)) (hT : T.length = n) : Two w wx n h g c' c T (icell L) :=
  ⟨t.h0, t.g0, fun e => t.ne e.symm, hT, t.ch, t.cg, t.to'.congr (fun j hj => over_all F T j (by omega)), t.from', t.below⟩
theorem twoA {w w1 : World} {n g c : Nat} {l : List D} (hg : w.heap.size ≤ g) (hc : n ≤ c) (hn : l.length = n) (hrow : RowAt w1 g 104 (n * 2) (icell l)) (hb : Below w.heap.size w w1) :
    Two w (w1.alloc (.cells (madeCells #[.int .u32 0, .string ByteArray.empty] (n * 2)) 104)) n g w1.heap.size c n l (icell []) :=
  ⟨hg, hb.size, by have := hrow.lt; omega, hn, hc, Nat.le_refl _, hrow.below (bel1 w1 _) hrow.lt, RowAt.of_row (rowIs_mades w1 _ (n * 2) 104 _ made_zero), hb.alloc hb.size _⟩
theorem twoB {w w1 : World} {n g c : Nat} {l : List D} (hg : w.heap.size + 1 ≤ g) (hc : n ≤ c) (hn : l.length = n) (hrow : RowAt w1 g 104 (n * 2) (icell l))
    (hb : Below (w.heap.size + 1) (w.alloc (.cells (madeCells #[.int .u32 0, .string ByteArray.empty] (n * 2)) 104)) w1) :
    Two w w1 n g w.heap.size c n l (icell []) :=
  ⟨by omega, Nat.le_refl _, by omega, hn, hc, Nat.le_refl _, hrow, (RowAt.of_row (rowIs_mades w _ (n * 2) 104 _ made_zero)).below hb (by omega), (bel1 w _).trans (hb.mono (by omega))⟩
/-- Where a piece of a row begins. -/
def sadr (b s c : Nat) : Option Addr := if c = s then some ⟨b, 0, none⟩ else some ⟨b, s * 2, none⟩
theorem sadr_lt {b s c : Nat} (h : s < c) : sadr b s c = some ⟨b, s * 2, none⟩ := by unfold sadr; rw [if_neg (by omega)]
set_option maxRecDepth 100000 in
theorem slice_run (b n c s e : Nat) (hs : s ≤ e) (he : e ≤ c) (w : World) :
    (Instr.slice 105 (.slice (some ⟨b, 0, none⟩) n c) (some (.int .i64 (s : Int))) (some (.int .i64 (e : Int))) none).run Tryz.prog w = .ok (.slice (sadr b s c) (e - s) (c - s)) w := by
  have ht : Tryz.prog.underlying 105 = some (.slice (Tryz.prog.elem 105)) := by kernel_rfl
  have hz : (sizeOf (Tryz.prog.elem 105)).run Tryz.prog w = .ok 2 w := Tryz.sizeOf104 w
  rw [run_slice_lh w 105 _ n c ht .i64 .i64 s e (by omega) (by omega) (by omega), hz]
  simp only [Result.andThen_ok, sliced, Int.toNat_natCast, sadr]
  by_cases h : c = s
  · rw [if_pos h, if_pos h]
  · rw [if_neg h, if_neg h]
    simp only [Option.map_some, Go.WideShapes.add_plain, Nat.zero_add]

set_option maxRecDepth 10000 in
set_option maxHeartbeats 4000000 in
theorem sorted_some (f cap n : Nat) (l : List D) (w : World) (hr : RowAt w f 104 (n * 2) (icell l)) (hn : l.length = n) (h0 : 0 < n) (h1 : n ≤ 400) :
    Calls Tryz.prog 138 #[.slice (some ⟨f, 0, none⟩) n cap, .func (.func 139) #[] #[]] w fun e w' =>
      ∃ g c, e = .returned (.slice (some ⟨g, 0, none⟩) n c) ∧ w.heap.size ≤ g ∧ RowAt w' g 104 (n * 2) (icell (ring l)) ∧ Below w.heap.size w w' := by
  have HR := hide hr
  have HN := hide hn
  have hmk := fun w => run_make_rows (P := Tryz.prog) 105 104 _ 2 24 Tryz.underlying105 infoP .i64 .i64 n (by omega) (by omega) w
  have hcl := fun w hr => clone_pts f cap l w hr (by omega) (by omega)
  rw [hn] at hcl
  have HCL := hide hcl
  have hflt : f < w.heap.size := hr.lt
  clear hr hn hcl
  go_enter Tryz.func138, Tryz.ntmps138
  go_upto_region 1 with fail
  go_cut [5, 6] (fun s5 s6 wx => ∃ (g h c c' : Nat), s5 = .slice (some ⟨g, 0, none⟩) n c ∧ s6 = .slice (some ⟨h, 0, none⟩) n c' ∧ Hid (Two w wx n g h c c' l (icell [])))
  case first =>
    go_region_with (go_at_call 159; refine (unhide HCL _ ?_).mono ?_; (first | exact (unhide HR).of_block rfl | exact ((unhide HR).below (bel1 w _) (by omega)).of_block rfl | skip); rintro e w1 ⟨g, c, rfl, hg, hc, hrow, hb1⟩; have HG := hide hg; have HROW := hide hrow; have HB1 := hide hb1)
    all_goals
      go_wp2_with fail
      go_meet
      first
        | exact ⟨_, _, _, _, rfl, rfl, hide (twoA (unhide HG) hc (unhide HN) (unhide HROW) (below_drew (unhide HB1)))⟩
        | exact ⟨_, _, _, _, rfl, rfl, hide (twoB (by simpa using unhide HG) hc (unhide HN) (unhide HROW) (below_drew (by simpa using unhide HB1)))⟩
  case rest =>
    obtain ⟨g, h, c, c', rfl, rfl, htwo⟩ := hcut
    go_wp2
    go_loopw [5, 6, 7] (fun fv tv rv wr => ∃ (g h c c' r : Nat) (L : List D) (F : Nat → Value), fv = .slice (some ⟨g, 0, none⟩) n c ∧ tv = .slice (some ⟨h, 0, none⟩) n c' ∧ rv = .int .i64 (r : Int) ∧ 1 ≤ r ∧ r ≤ 800 ∧
        Hid (Two w wr n g h c c' L F) ∧ Hid (L.Perm l) ∧ Hid (Runs r L)) (fun _ _ rv _ => n - (intOf rv).toNat)
    case atStart => exact ⟨g, h, c, c', 1, l, icell [], rfl, rfl, rfl, by omega, by omega, htwo, hide (List.Perm.refl _), hide (runs_one l)⟩
    case round =>
      clear htwo
      obtain ⟨g, h, c, c', r, L, F, rfl, rfl, rfl, hr1, hr2, htwo, hperm, hruns⟩ := hrel
      by_cases hlt : r < n
      · go_wp2
        go_loopw [8] (fun av wr => ∃ (m at' : Nat) (T : List D), av = .int .i64 (at' : Int) ∧ at' ≤ 1600 ∧ Hid (at' = m * (2 * r)) ∧ Hid (Mid r L m T) ∧ Hid (Two w wr n g h c c' L (over F 0 T))) (fun av _ => n - (intOf av).toNat)
        case atStart => exact ⟨0, 0, [], rfl, Nat.zero_le _, hide (by simp), hide (mid_start r L), hide ((unhide htwo).merged ((unhide htwo).to'.congr (fun j _ => (over_nil F 0 j).symm)) (gb_refl _ _))⟩
        case round =>
          obtain ⟨m, at', T, rfl, hat, hatm, hmid, htw⟩ := hrel
          by_cases hla : at' < n
          · obtain ⟨hf, hhf⟩ : ∃ hf : Nat, hf = min (at' + r) n := ⟨_, rfl⟩
            obtain ⟨en, hen⟩ : ∃ en : Nat, en = min (at' + 2 * r) n := ⟨_, rfl⟩
            have e9 : min ((at' : Int) + r) n = (hf : Int) := by omega
            have e10 : min ((at' : Int) + 2 * r) n = (en : Int) := by omega
            have b1 : at' ≤ hf := by omega
            have b2 : hf ≤ en := by omega
            have b3 : en ≤ n := by omega
            have b4 : at' < en := by omega
            have htd := hide (unhide htw).drew
            have hcg := (unhide htw).cg
            have hch := (unhide htw).ch
            have hs1 := fun w => slice_run h n c' at' en (by omega) (by omega) w
            have hs2 := fun w => slice_run g n c at' hf (by omega) (by omega) w
            have hs3 := fun w => slice_run g n c hf en (by omega) (by omega) w
            rw [sadr_lt (show at' < c' by omega)] at hs1
            rw [sadr_lt (show at' < c by omega)] at hs2
            have hlA : (runA r L at').length = hf - at' := by rw [runA_length, (unhide htw).len]; omega
            have hlB : (runA r L (at' + r)).length = en - hf := by rw [runA_length, (unhide htw).len]; omega
            have hpB : PAt wr.drew g (sadr g hf c) (runA r L (at' + r)) := by
              by_cases hq : at' + r < n
              · have : hf = at' + r := by omega
                rw [← this]
                exact pat_piece (unhide htd).from' (unhide htw).len hf r _ (fun h => sadr_lt (by omega))
              · intro hne
                exact absurd (List.length_eq_zero_iff.1 (by rw [hlB]; omega)) hne
            have hpA := pat_piece (unhide htd).from' (unhide htw).len at' r _ (fun _ => rfl)
            have hmerge := merge_some h g (at' * 2) (n * 2) (en - at') (c' - at') (c - at') (c - hf) (some ⟨g, at' * 2, none⟩) (sadr g hf c) (runA r L at') (runA r L (at' + r)) (over F 0 T) wr.drew (unhide htd).ne (unhide htd).to' (by omega) (unhide htd).from'.lt hpA hpB (by rw [hlA, hlB]; omega) (by omega) (by rw [hlA]; omega) (by rw [hlB]; omega)
            rw [hlA, hlB] at hmerge
            generalize sadr g hf c = ad at hs3 hmerge
            have HM := hide hmerge
            clear hmerge hpA hpB hlA hlB hhf hen
            go_wp2
            go_region_with (go_at_call 160; refine (unhide HM).mono ?_; rintro e w1 ⟨rfl, hrow1, hgb1⟩; have HROW := hide hrow1; have HGB := hide hgb1)
            have HT2 : Hid (Two w w1 n g h c c' L (over F 0 (T ++ List.merge (runA r L at') (runA r L (at' + r)) le))) := by
              have hTl : T.length = at' := by have h1 := (unhide hmid).1; have h2 := (unhide htw).len; have h3 := unhide hatm; omega
              exact (unhide htd).merged ((unhide HROW).congr (fun j _ => by rw [← hTl]; exact over_append F T _ j)) (unhide HGB)
            have HM2 : Hid (Mid r L (m + 1) (T ++ List.merge (runA r L at') (runA r L (at' + r)) le)) := by
              have h3 := unhide hatm
              have h4 := mid_step (unhide hmid) (unhide hruns) (by rw [← h3, (unhide htw).len]; exact hla)
              rw [← h3] at h4
              exact h4
            have HA2 : Hid (at' + 2 * r = (m + 1) * (2 * r)) := by show at' + 2 * r = _; rw [Nat.add_mul, ← unhide hatm, Nat.one_mul]
            clear HROW HGB hs1 hs2 hs3 e9 e10
            go_wp2
            go_roundw
            case rel => exact ⟨m + 1, at' + 2 * r, _, by go_num, by omega, HA2, HM2, HT2⟩
            case measure => simp [intOf]; omega
          · have hE := mid_end (unhide hmid) (by rw [← unhide hatm, (unhide htw).len]; omega)
            have HP2 := hide (hE.2.1.trans (unhide hperm))
            have HR2 := hide hE.2.2
            have HT2 := hide ((unhide htw).swap (hE.1.trans (unhide htw).len))
            clear hE
            go_wp2
            go_roundw
            case rel => exact ⟨h, g, c', c, 2 * r, T, icell L, rfl, rfl, by go_num, by omega, by omega, HT2, HP2, HR2⟩
            case measure => simp [intOf]; omega
      · have HE : Hid (L = ring l) := ring_eq (unhide hperm) (runs_all (unhide hruns) (by rw [(unhide htwo).len]; omega))
        go_wp2
        go_ret
        exact ⟨g, c, rfl, (unhide htwo).g0, by rw [← unhide HE]; exact (unhide htwo).from', (unhide htwo).below⟩
end Ring
end Go.Proofs.YtpihkjpnaefacaaGreatDoor
