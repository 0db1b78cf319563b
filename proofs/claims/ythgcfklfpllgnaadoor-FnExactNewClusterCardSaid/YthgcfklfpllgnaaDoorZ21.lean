/-
  The program's sortedBy: the ring of a list of points, in a row of its own.
-/
import Derived.Test.YthgcfklfpllgnaaDoorZ19
import Derived.Test.YthgcfklfpllgnaaDoorZ20
import Derived.Deep.DeepCutAuto
import Derived.Test.YthgcfklfpllgnaaDoorZ17
import Derived.Lib.QuietBelow
import Derived.BigQuiet
import Derived.Outline
namespace Go.Proofs.YthgcfklfpllgnaaDoor
namespace Ring
open Go.RowKit Base Points NumText Marks OwnR PointsW
set_option linter.unusedVariables false

/-- Two rows of one length behind what was there. -/
structure Two (w wx : World) (n g h c c' : Nat) (L : List D) (F : Nat → Value) : Prop where
  g0 : w.heap.size ≤ g
  h0 : w.heap.size ≤ h
  ne : h ≠ g
  len : L.length = n
  cg : n ≤ c
  ch : n ≤ c'
  from' : RowAt wx g 113 (n * 2) (icell L)
  to' : RowAt wx h 113 (n * 2) F
  below : Below w.heap.size w wx

theorem Two.drew {w wx : World} {n g h c c' : Nat} {L : List D} {F : Nat → Value} (t : Two w wx n g h c c' L F) : Two w wx.drew n g h c c' L F :=
  ⟨t.g0, t.h0, t.ne, t.len, t.cg, t.ch, t.from'.of_block rfl, t.to'.of_block rfl, t.below.drew⟩
theorem Two.merged {w wx wy : World} {n g h c c' : Nat} {L : List D} {F G : Nat → Value} (t : Two w wx n g h c c' L F) (hr : RowAt wy h 113 (n * 2) G) (hg : wx.grownBy wy (some h)) : Two w wy n g h c c' L G :=
  ⟨t.g0, t.h0, t.ne, t.len, t.cg, t.ch, t.from'.gb hg (fun e => t.ne e.symm), hr, below_gb t.below hg t.below.size t.h0⟩
theorem Two.swap {w wx : World} {n g h c c' : Nat} {L T : List D} {F : Nat → Value} (t : Two w wx n g h c c' L (over F 0 T)) (hT : T.length = n) : Two w wx n h g c' c T (icell L) :=
  ⟨t.h0, t.g0, fun e => t.ne e.symm, hT, t.ch, t.cg, t.to'.congr (fun j hj => over_all F T j (by omega)), t.from', t.below⟩
theorem twoA {w w1 : World} {n g c : Nat} {l : List D} (hg : w.heap.size ≤ g) (hc : n ≤ c) (hn : l.length = n) (hrow : RowAt w1 g 113 (n * 2) (icell l)) (hb : Below w.heap.size w w1) :
    Two w (w1.alloc (.cells (madeCells #[.int .u32 0, .string ByteArray.empty] (n * 2)) 113)) n g w1.heap.size c n l (icell []) :=
  ⟨hg, hb.size, by have := hrow.lt; omega, hn, hc, Nat.le_refl _, hrow.below (bel1 w1 _) hrow.lt, RowAt.of_row (rowIs_mades w1 _ (n * 2) 113 _ made_zero), hb.alloc hb.size _⟩
theorem twoB {w w1 : World} {n g c : Nat} {l : List D} (hg : w.heap.size + 1 ≤ g) (hc : n ≤ c) (hn : l.length = n) (hrow : RowAt w1 g 113 (n * 2) (icell l))
    (hb : Below (w.heap.size + 1) (w.alloc (.cells (madeCells #[.int .u32 0, .string ByteArray.empty] (n * 2)) 113)) w1) :
    Two w w1 n g w.heap.size c n l (icell []) :=
  ⟨by omega, Nat.le_refl _, by omega, hn, hc, Nat.le_refl _, hrow, (RowAt.of_row (rowIs_mades w _ (n * 2) 113 _ made_zero)).below hb (by omega), (bel1 w _).trans (hb.mono (by omega))⟩
/-- Where a piece of a row begins. -/
def sadr (b s c : Nat) : Option Addr := if c = s then some ⟨b, 0, none⟩ else some ⟨b, s * 2, none⟩
theorem sadr_lt {b s c : Nat} (h : s < c) : sadr b s c = some ⟨b, s * 2, none⟩ := by unfold sadr; rw [if_neg (by omega)]
set_option maxRecDepth 100000 in
theorem slice_run (b n c s e : Nat) (hs : s ≤ e) (he : e ≤ c) (w : World) :
    (Instr.slice 62 (.slice (some ⟨b, 0, none⟩) n c) (some (.int .i64 (s : Int))) (some (.int .i64 (e : Int))) none).run Tryd.prog w = .ok (.slice (sadr b s c) (e - s) (c - s)) w := by
  have ht : Tryd.prog.underlying 62 = some (.slice (Tryd.prog.elem 62)) := by kernel_rfl
  have hz : (sizeOf (Tryd.prog.elem 62)).run Tryd.prog w = .ok 2 w := Tryd.sizeOf113 w
  rw [run_slice_lh w 62 _ n c ht .i64 .i64 s e (by omega) (by omega) (by omega), hz]
  simp only [Result.andThen_ok, sliced, Int.toNat_natCast, sadr]
  by_cases h : c = s
  · rw [if_pos h, if_pos h]
  · rw [if_neg h, if_neg h]
    simp only [Option.map_some, Go.WideShapes.add_plain, Nat.zero_add]

set_option maxRecDepth 10000 in
set_option maxHeartbeats 4000000 in
theorem sorted_some (f cap n : Nat) (l : List D) (w : World) (hr : RowAt w f 113 (n * 2) (icell l)) (hn : l.length = n) (h0 : 0 < n) (h1 : n ≤ 400) :
    Calls Tryd.prog 59 #[.slice (some ⟨f, 0, none⟩) n cap, .func (.func 60) #[] #[]] w fun e w' =>
      ∃ g c, e = .returned (.slice (some ⟨g, 0, none⟩) n c) ∧ w.heap.size ≤ g ∧ RowAt w' g 113 (n * 2) (icell (ring l)) ∧ Below w.heap.size w w' := by
  have HR := hide hr
  have HN := hide hn
  have hmk := fun w => run_make_rows (P := Tryd.prog) 62 113 _ 2 24 Tryd.underlying62 infoP .i64 .i64 n (by omega) (by omega) w
  have hcl := fun w hr => clone_pts f cap l w hr (by omega) (by omega)
  rw [hn] at hcl
  have HCL := hide hcl
  have hflt : f < w.heap.size := hr.lt
  clear hr hn hcl
  go_enter Tryd.func59, Tryd.ntmps59
  go_upto_region 1 with fail
  go_cut [5, 6] (fun s5 s6 wx => ∃ (g h c c' : Nat), s5 = .slice (some ⟨g, 0, none⟩) n c ∧ s6 = .slice (some ⟨h, 0, none⟩) n c' ∧ Hid (Two w wx n g h c c' l (icell [])))
  case first =>
    go_region_with (go_at_call 68; refine (unhide HCL _ ?_).mono ?_; (first | exact (unhide HR).of_block rfl | exact ((unhide HR).below (bel1 w _) (by omega)).of_block rfl | skip); rintro e w1 ⟨g, c, rfl, hg, hc, hrow, hb1⟩; have HG := hide hg; have HROW := hide hrow; have HB1 := hide hb1)
    all_goals
      go_wp2_with fail
      go_meet
      first
        | exact ⟨_, _, _, _, rfl, rfl, hide (twoA (unhide HG) hc (unhide HN) (unhide HROW) (below_drew (unhide HB1)))⟩
        | exact ⟨_, _, _, _, rfl, rfl, hide (twoB (by simpa using unhide HG) hc (unhide HN) (unhide HROW) (below_drew (by simpa using unhide HB1)))⟩
  case rest =>
    obtain ⟨g, h, c, c', rfl, rfl, htwo⟩ := hcut
    go_wp2
    go_loopw [5, 6, 7] (fun fv tv rv wr => ∃ (g h c c' r : Nat) (L : List D) (F : Nat → Value), fv = .slice (some ⟨g, 0, none⟩) n c ∧ tv = .slice (some ⟨h, 0, none⟩) n c' ∧ rv = .int .i64 (r : Int) ∧ 1 ≤ r ∧ r ≤ 800 ∧
        Hid (Two w wr n g h c c' L F) ∧ Hid (L.Perm l) ∧ Hid (Runs r L)) (fun _ _ rv _ => n - (intOf rv).toNat)
    case atStart => exact ⟨g, h, c, c', 1, l, icell [], rfl, rfl, rfl, by omega, by omega, htwo, hide (List.Perm.refl _), hide (runs_one l)⟩
    case round =>
      clear htwo
      obtain ⟨g, h, c, c', r, L, F, rfl, rfl, rfl, hr1, hr2, htwo, hperm, hruns⟩ := hrel
      by_cases hlt : r < n
      · go_wp2
        go_loopw [8] (fun av wr => ∃ (m at' : Nat) (T : List D), av = .int .i64 (at' : Int) ∧ at' ≤ 1600 ∧ Hid (at' = m * (2 * r)) ∧ Hid (Mid r L m T) ∧ Hid (Two w wr n g h c c' L (over F 0 T))) (fun av _ => n - (intOf av).toNat)
        case atStart => exact ⟨0, 0, [], rfl, Nat.zero_le _, hide (by simp), hide (mid_start r L), hide ((unhide htwo).merged ((unhide htwo).to'.congr (fun j _ => (over_nil F 0 j).symm)) (gb_refl _ _))⟩
        case round =>
          obtain ⟨m, at', T, rfl, hat, hatm, hmid, htw⟩ := hrel
          by_cases hla : at' < n
          · obtain ⟨hf, hhf⟩ : ∃ hf : Nat, hf = min (at' + r) n := ⟨_, rfl⟩
            obtain ⟨en, hen⟩ : ∃ en : Nat, en = min (at' + 2 * r) n := ⟨_, rfl⟩
            have e9 : min ((at' : Int) + r) n = (hf : Int) := by omega
            have e10 : min ((at' : Int) + 2 * r) n = (en : Int) := by omega
            have b1 : at' ≤ hf := by omega
            have b2 : hf ≤ en := by omega
            have b3 : en ≤ n := by omega
            have b4 : at' < en := by omega
            have htd := hide (unhide htw).drew
            have hcg := (unhide htw).cg
            have hch := (unhide htw).ch
            have hs1 := fun w => slice_run h n c' at' en (by omega) (by omega) w
            have hs2 := fun w => slice_run g n c at' hf (by omega) (by omega) w
            have hs3 := fun w => slice_run g n c hf en (by omega) (by omega) w
            rw [sadr_lt (show at' < c' by omega)] at hs1
            rw [sadr_lt (show at' < c by omega)] at hs2
            have hlA : (runA r L at').length = hf - at' := by rw [runA_length, (unhide htw).len]; omega
            have hlB : (runA r L (at' + r)).length = en - hf := by rw [runA_length, (unhide htw).len]; omega
            have hpB : PAt wr.drew g (sadr g hf c) (runA r L (at' + r)) := by
              by_cases hq : at' + r < n
              · have : hf = at' + r := by omega
                rw [← this]
                exact pat_piece (unhide htd).from' (unhide htw).len hf r _ (fun h => sadr_lt (by omega))
              · intro hne
                exact absurd (List.length_eq_zero_iff.1 (by rw [hlB]; omega)) hne
            have hpA := pat_piece (unhide htd).from' (unhide htw).len at' r _ (fun _ => rfl)
            have hmerge := merge_some h g (at' * 2) (n * 2) (en - at') (c' - at') (c - at') (c - hf) (some ⟨g, at' * 2, none⟩) (sadr g hf c) (runA r L at') (runA r L (at' + r)) (over F 0 T) wr.drew (unhide htd).ne (unhide htd).to' (by omega) (unhide htd).from'.lt hpA hpB (by rw [hlA, hlB]; omega) (by omega) (by rw [hlA]; omega) (by rw [hlB]; omega)
            rw [hlA, hlB] at hmerge
            generalize sadr g hf c = ad at hs3 hmerge
            have HM := hide hmerge
            clear hmerge hpA hpB hlA hlB hhf hen
            go_wp2
            go_region_with (go_at_call 69; refine (unhide HM).mono ?_; rintro e w1 ⟨rfl, hrow1, hgb1⟩; have HROW := hide hrow1; have HGB := hide hgb1)
            have HT2 : Hid (Two w w1 n g h c c' L (over F 0 (T ++ List.merge (runA r L at') (runA r L (at' + r)) le))) := by
              have hTl : T.length = at' := by have h1 := (unhide hmid).1; have h2 := (unhide htw).len; have h3 := unhide hatm; omega
              exact (unhide htd).merged ((unhide HROW).congr (fun j _ => by rw [← hTl]; exact over_append F T _ j)) (unhide HGB)
            have HM2 : Hid (Mid r L (m + 1) (T ++ List.merge (runA r L at') (runA r L (at' + r)) le)) := by
              have h3 := unhide hatm
              have h4 := mid_step (unhide hmid) (unhide hruns) (by rw [← h3, (unhide htw).len]; exact hla)
              rw [← h3] at h4
              exact h4
            have HA2 : Hid (at' + 2 * r = (m + 1) * (2 * r)) := by show at' + 2 * r = _; rw [Nat.add_mul, ← unhide hatm, Nat.one_mul]
            clear HROW HGB hs1 hs2 hs3 e9 e10
            go_wp2
            go_roundw
            case rel => exact ⟨m + 1, at' + 2 * r, _, by go_num, by omega, HA2, HM2, HT2⟩
            case measure => simp [intOf]; omega
          · have hE := mid_end (unhide hmid) (by rw [← unhide hatm, (unhide htw).len]; omega)
            have HP2 := hide (hE.2.1.trans (unhide hperm))
            have HR2 := hide hE.2.2
            have HT2 := hide ((unhide htw).swap (hE.1.trans (unhide htw).len))
            clear hE
            go_wp2
            go_roundw
            case rel => exact ⟨h, g, c', c, 2 * r, T, icell L, rfl, rfl, by go_num, by omega, by omega, HT2, HP2, HR2⟩
            case measure => simp [intOf]; omega
      · have HE : Hid (L = ring l) := ring_eq (unhide hperm) (runs_all (unhide hruns) (by rw [(unhide htwo).len]; omega))
        go_wp2
        go_ret
        exact ⟨g, c, rfl, (unhide htwo).g0, by rw [← unhide HE]; exact (unhide htwo).from', (unhide htwo).below⟩
end Ring
end Go.Proofs.YthgcfklfpllgnaaDoor
/-
  The program's ringOf and RingOf: the ring of good nodes, in a row of its own; nothing of others.
-/
namespace Go.Proofs.YthgcfklfpllgnaaDoor
namespace Ring
open Go.RowKit Base Points NumText Marks OwnR PointsW
set_option linter.unusedVariables false

theorem rowAt_own {w : World} {base : Nat} {v : Value} {l : List D} (h : w.ownsRow base 113 2 v l.length (flat l)) (h0 : 0 < l.length) : ∃ g c, v = .slice (some ⟨g, 0, none⟩) l.length c ∧ base ≤ g ∧ l.length ≤ c ∧ RowAt w g 113 (l.length * 2) (icell l) := by
  obtain ⟨g, c, rfl, hg, hc, -⟩ := own_some h h0
  obtain ⟨r, hours, -⟩ := own_ours h
  refine ⟨g, c, rfl, hg, hc, ?_⟩
  rcases hours with ⟨h, _⟩ | ⟨g', he, _, h⟩
  · omega
  · simp at he; rw [he]; exact h

set_option maxRecDepth 10000 in
set_option maxHeartbeats 4000000 in
theorem ringOf_some (b off cap : Nat) (l : List Nodes.D) (w : World) (hb : b < w.heap.size) (hc : ∀ i, i < l.length → Nodes.At w b (off + i * 2) (l.getD i Nodes.zero)) (hg : NodesM.gnB l = true) (hv : Vars w) :
    Calls Tryd.prog 48 #[.slice (some ⟨b, off, none⟩) l.length cap] w fun e w' =>
      ∃ g c, e = .returned (.slice (some ⟨g, 0, none⟩) (points l).length c) ∧ w.heap.size ≤ g ∧ RowAt w' g 113 ((points l).length * 2) (icell (ring (points l))) ∧ Below w.heap.size w w' := by
  obtain ⟨i0, hi, hz0, hz1, hz2⟩ := info_ex
  have HI := hide hi
  have HZ0 := hide hz0
  have HZ1 := hide hz1
  have HZ2 := hide hz2
  have hcs := hide hc
  have HG := hide hg
  have HV := hide hv
  have hl8 := (good_len hg).2
  have hp1 := points_pos hg
  have hp2 := points_len hg
  clear hi hz0 hz1 hz2 hc hg hv
  go_enter Tryd.func48, Tryd.ntmps48
  go_wp2
  go_loopw [3, 8] (fun v iv wr => ∃ k : Nat, k ≤ l.length ∧ iv = .int .i64 (k : Int) ∧ Hid (wr.ownsRow w.heap.size 113 2 v (points (l.take k)).length (flat (points (l.take k)))) ∧ Hid (Below w.heap.size w wr)) (fun _ iv _ => l.length - (intOf iv).toNat)
  case atStart => exact ⟨0, Nat.zero_le _, rfl, hide (World.ownsRow_nil _ _ _ _), hide (Below.refl _ _)⟩
  case round =>
    obtain ⟨k, hk, rfl, hown, hbel⟩ := hrel
    by_cases hlt : k < l.length
    · obtain ⟨c0, c1⟩ := (unhide hcs k hlt).below (unhide hbel) hb
      have hx := good_at (unhide HG) hlt
      have hpl := points_le (unhide HG) k hk
      have hst := hide (points_take_succ l k hlt)
      have hzw := (unhide hbel).size
      generalize l.getD k Nodes.zero = x at c0 c1 hx hst
      generalize points (l.take k) = P at hown hst hpl
      obtain ⟨-, -, hw1, hw2⟩ := node_bd hx
      obtain ⟨n, hn⟩ : ∃ n : Nat, 8 * x.weight = (n : Int) := ⟨(8 * x.weight).toNat, by omega⟩
      have hn40 : n ≤ 40 := by omega
      have hcal := fun w hv => pointsOf_some x n w hx hn hv
      have hsz : Hid (ptsOf x = ptsN x.name n) := by show ptsN x.name (8 * x.weight).toNat = _; rw [hn]; rfl
      have HC := hide hcal
      clear hcal hx hn
      go_wp2_with fail
      refine (unhide HC _ ((unhide HV).below ((unhide hbel).alloc hzw _))).mono ?_
      rintro e w1 ⟨bb, rfl, hbb, hrow, hb1⟩
      simp only [World.size_alloc] at hbb hb1
      have B1 := hide (((unhide hbel).alloc hzw _).trans (hb1.mono (by omega)))
      have O1 := hide (own_below (unhide hown) ((bel1 wr _).trans (hb1.mono (by omega))) (Nat.le_refl _))
      have hz1 : wr.heap.size < w1.heap.size := by have := hb1.size; simp at this; omega
      have HNW := hide (hrow.congr (g := icell (ptsN x.name n)) (fun _ _ => rfl))
      have HFL := hide ((flat_length (ptsN x.name n)).trans (by rw [ptsN_length]))
      have HFO := hide (flat_oneCell (ptsN x.name n))
      clear hb1 hrow
      go_wp2_with (at_builtin; go_loud (refine wpList_append_own _ rfl _ _ 62 rfl w.heap.size 113 i0 _ 2 24 Tryd.underlying62 (unhide HI) (unhide HZ0) (unhide HZ1) (unhide HZ2) rfl (by decide) _ _ _ rfl (unhide O1) ⟨bb, 0, none⟩ n n (flat (ptsN x.name n)) rfl (unhide HFL) ?c1 (unhide HFO) ?c3 ?c4 ?c5 ?_))
      case c1 => exact news_row (by rw [ptsN_length]; exact unhide HNW)
      case c3 => unfold maxLen; omega
      case c4 => omega
      case c5 => omega
      intro v' w2 hown' hgrow _
      have O2 : Hid (w2.ownsRow w.heap.size 113 2 v' (points (l.take (k + 1))).length (flat (points (l.take (k + 1))))) := by
        show w2.ownsRow _ _ _ _ _ _
        rw [unhide hst, unhide hsz, flat_append, List.length_append, ptsN_length]
        exact hown'
      have B2 := hide ((unhide B1).grown hgrow (by omega) (own_block (unhide O1)))
      clear hown' hgrow
      go_wp2
      go_roundw
      case rel => exact ⟨k + 1, by omega, by go_num, O2, B2⟩
      case measure => simp [intOf]; omega
    · obtain rfl : k = l.length := by omega
      rw [List.take_length] at hown
      obtain ⟨g, c, rfl, hg0, hgc, hrow⟩ := rowAt_own (unhide hown) hp1
      have HS := hide (sorted_some g c (points l).length (points l) wr hrow rfl hp1 (by omega))
      have hzw := (unhide hbel).size
      clear hrow
      go_wp2_with fail
      refine (unhide HS).mono ?_
      rintro e w1 ⟨g1, c1, rfl, hg1, hrow1, hb1⟩
      have HR1 := hide hrow1
      have HB1 := hide ((unhide hbel).trans (hb1.mono hzw))
      clear hrow1 hb1
      go_wp2
      go_ret
      exact ⟨g1, c1, rfl, by omega, unhide HR1, unhide HB1⟩

/-- What RingOf answers of a list of nodes. -/
def ringL (l : List Nodes.D) : List D := if NodesM.gnB l then ring (points l) else []
end Ring
end Go.Proofs.YthgcfklfpllgnaaDoor
/-
  The model's sorting, plain. No Go function is spoken of here.
-/
namespace Go.Proofs.YthgcfklfpllgnaaDoor
namespace Ring
open Go.RowKit Base Points NumText Marks OwnR PointsW
set_option linter.unusedVariables false

theorem getD_mid (A R : List D) (x : D) : (A ++ x :: R).getD A.length zero = x := by simp [List.getD_eq_getElem?_getD]
theorem icell_pos (M : List D) (k : Nat) : icell M (k * 2) = .int .u32 (M.getD k zero).pos := by
  rw [icell, show k * 2 % 2 = 0 by omega, show k * 2 / 2 = k by omega]; simp
theorem icell_name (M : List D) (k : Nat) : icell M (k * 2 + 1) = .string (M.getD k zero).name := by
  rw [icell, show (k * 2 + 1) % 2 = 1 by omega, show (k * 2 + 1) / 2 = k by omega]; simp
theorem swap_icell (A R : List D) (x y : D) (p : Nat) (hp : A.length = p) (j : Nat) :
    (if j = p * 2 + 1 then (.string x.name : Value) else if j = p * 2 then (.int .u32 x.pos : Value) else if j = (p + 1) * 2 + 1 then (.string y.name : Value) else if j = (p + 1) * 2 then (.int .u32 y.pos : Value) else icell (A ++ y :: x :: R) j) = icell (A ++ x :: y :: R) j := by
  subst hp
  have e0 : (A ++ x :: y :: R).getD A.length zero = x := getD_mid A _ x
  have e1 : (A ++ x :: y :: R).getD (A.length + 1) zero = y := by
    simp [List.getD_eq_getElem?_getD]
  by_cases h1 : j = A.length * 2 + 1
  · rw [if_pos h1, h1, icell_name, e0]
  rw [if_neg h1]
  by_cases h2 : j = A.length * 2
  · rw [if_pos h2, h2, icell_pos, e0]
  rw [if_neg h2]
  by_cases h3 : j = (A.length + 1) * 2 + 1
  · rw [if_pos h3, h3, icell_name, e1]
  rw [if_neg h3]
  by_cases h4 : j = (A.length + 1) * 2
  · rw [if_pos h4, h4, icell_pos, e1]
  rw [if_neg h4]
  unfold icell
  have e : (A ++ y :: x :: R).getD (j / 2) zero = (A ++ x :: y :: R).getD (j / 2) zero := by
    simp only [List.getD_eq_getElem?_getD]
    congr 1
    by_cases hlt : j / 2 < A.length
    · rw [List.getElem?_append_left hlt, List.getElem?_append_left hlt]
    · rw [List.getElem?_append_right (by omega), List.getElem?_append_right (by omega)]
      obtain ⟨d, hd⟩ : ∃ d, j / 2 - A.length = d + 2 := ⟨j / 2 - A.length - 2, by omega⟩
      rw [hd]; rfl
  rw [e]

theorem sink_end {P A1 A2 L : List D} {i k : Nat} {x : D} (hP : P.length = i ∧ Sorted P ∧ P.Perm (L.take i)) (hA : A1.length = k ∧ A1 ++ A2 = P ∧ ∀ y ∈ A2, less x y = true) (hi : i < L.length) (hx : L.drop i = x :: L.drop (i + 1)) (hl : ∀ y, A1.getLast? = some y → less x y = false) :
    (A1 ++ x :: A2).length = i + 1 ∧ Sorted (A1 ++ x :: A2) ∧ (A1 ++ x :: A2).Perm (L.take (i + 1)) := by
  obtain ⟨h1, h2, h3⟩ := hP
  obtain ⟨a1, a2, a3⟩ := hA
  subst a2
  have ex : L[i] = x := by rw [List.drop_eq_getElem_cons hi] at hx; exact (List.cons.inj hx).1
  refine ⟨by simp at h1 ⊢; omega, sink_sorted h2 a3 hl, ?_⟩
  rw [List.take_succ_eq_append_getElem hi, ex]
  exact (sink_perm A1 A2 x).trans (List.Perm.append_right [x] h3)
theorem last_snoc {A : List D} {p : Nat} (h : A.length = p + 1) : ∃ I y, A = I ++ [y] ∧ I.length = p := by
  rcases List.eq_nil_or_concat A with rfl | ⟨I, y, rfl⟩
  · simp at h
  · exact ⟨I, y, by simp, by simpa using h⟩

end Ring
end Go.Proofs.YthgcfklfpllgnaaDoor
