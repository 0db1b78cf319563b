/-
  The program's sortedBy: the ring of a list of points, in a row of its own.
-/
import Derived.Test.YtkodgbalhnbhcaaGreatDoorZ15
import Derived.Test.YtkodgbalhnbhcaaGreatDoorRingA
import Derived.Deep.DeepCutAuto
import Derived.Test.YtkodgbalhnbhcaaGreatDoorZ10
import Derived.Deep.RegionWith
import Derived.Test.YtkodgbalhnbhcaaGreatDoorZ3
namespace Go.Proofs.YtkodgbalhnbhcaaGreatDoor
namespace Ring
open Go.RowKit Base Points NumText Marks OwnR PointsW
set_option linter.unusedVariables false

/-- Two rows of one length behind what was there. -/
structure Two (w wx : World) (n g h c c' : Nat) (L : List D) (F : Nat → Value) : Prop where
  g0 : w.heap.size ≤ g
  h0 : w.heap.size ≤ h
  ne : h ≠ g
  len : L.length = n
  cg : n ≤ c
  ch : n ≤ c'
  from' : RowAt wx g 129 (n * 2) (icell L)
  to' : RowAt wx h 129 (n * 2) F
  below : Below w.heap.size w wx

theorem Two.drew {w wx : World} {n g h c c' : Nat} {L : List D} {F : Nat → Value} (t : Two w wx n g h c c' L F) : Two w wx.drew n g h c c' L F :=
  ⟨t.g0, t.h0, t.ne, t.len, t.cg, t.ch, t.from'.of_block rfl, t.to'.of_block rfl, t.below.drew⟩
theorem Two.merged {w wx wy : World} {n g h c c' : Nat} {L : List D} {F G : Nat → Value} (t : Two w wx n g h c c' L F) (hr : RowAt wy h 129 (n * 2) G) (hg : wx.grownBy wy (some h)) : Two w wy n g h c c' L G :=
  ⟨t.g0, t.h0, t.ne, t.len, t.cg, t.ch, t.from'.gb hg (fun e => t.ne e.symm), hr, below_gb t.below hg t.below.size t.h0⟩
theorem Two.swap {w wx : World} {n g h c c' : Nat} {L T : List D} {F : Nat → Value} (t : Two w wx n g h c c' L (over F 0 T)) (hT : T.length = n) : Two w wx n h g c' c T (icell L) :=
  ⟨t.h0, t.g0, fun e => t.ne e.symm, hT, t.ch, t.cg, t.to'.congr (fun j hj => over_all F T j (by omega)), t.from', t.below⟩
theorem twoA {w w1 : World} {n g c : Nat} {l : List D} (hg : w.heap.size ≤ g) (hc : n ≤ c) (hn : l.length = n) (hrow : RowAt w1 g 129 (n * 2) (icell l)) (hb : Below w.heap.size w w1) :
    Two w (w1.alloc (.cells (madeCells #[.int .u32 0, .string ByteArray.empty] (n * 2)) 129)) n g w1.heap.size c n l (icell []) :=
  ⟨hg, hb.size, by have := hrow.lt; omega, hn, hc, Nat.le_refl _, hrow.below (bel1 w1 _) hrow.lt, RowAt.of_row (rowIs_mades w1 _ (n * 2) 129 _ made_zero), hb.alloc hb.size _⟩
theorem twoB {w w1 : World} {n g c : Nat} {l : List D} (hg : w.heap.size + 1 ≤ g) (hc : n ≤ c) (hn : l.length = n) (hrow : RowAt w1 g 129 (n * 2) (icell l))
    (hb : Below (w.heap.size + 1) (w.alloc (.cells (madeCells #[.int .u32 0, .string ByteArray.empty] (n * 2)) 129)) w1) :
    Two w w1 n g w.heap.size c n l (icell []) :=
  ⟨by omega, Nat.le_refl _, by omega, hn, hc, Nat.le_refl _, hrow, (RowAt.of_row (rowIs_mades w _ (n * 2) 129 _ made_zero)).below hb (by omega), (bel1 w _).trans (hb.mono (by omega))⟩
/-- Where a piece of a row begins. -/
def sadr (b s c : Nat) : Option Addr := if c = s then some ⟨b, 0, none⟩ else some ⟨b, s * 2, none⟩
theorem sadr_lt {b s c : Nat} (h : s < c) : sadr b s c = some ⟨b, s * 2, none⟩ := by unfold sadr; rw [if_neg (by omega)]
set_option maxRecDepth 100000 in
theorem slice_run (b n c s e : Nat) (hs : s ≤ e) (he : e ≤ c) (w : World) :
    (Instr.slice 113 (.slice (some ⟨b, 0, none⟩) n c) (some (.int .i64 (s : Int))) (some (.int .i64 (e : Int))) none).run Tryz.prog w = .ok (.slice (sadr b s c) (e - s) (c - s)) w := by
  have ht : Tryz.prog.underlying 113 = some (.slice (Tryz.prog.elem 113)) := by kernel_rfl
  have hz : (sizeOf (Tryz.prog.elem 113)).run Tryz.prog w = .ok 2 w := Tryz.sizeOf129 w
  rw [run_slice_lh w 113 _ n c ht .i64 .i64 s e (by omega) (by omega) (by omega), hz]
  simp only [Result.andThen_ok, sliced, Int.toNat_natCast, sadr]
  by_cases h : c = s
  · rw [if_pos h, if_pos h]
  · rw [if_neg h, if_neg h]
    simp only [Option.map_some, Go.WideShapes.add_plain, Nat.zero_add]

set_option maxRecDepth 10000 in
set_option maxHeartbeats 4000000 in
theorem sorted_some (f cap n : Nat) (l : List D) (w : World) (hr : RowAt w f 129 (n * 2) (icell l)) (hn : l.length = n) (h0 : 0 < n) (h1 : n ≤ 400) :
    Calls Tryz.prog 126 #[.slice (some ⟨f, 0, none⟩) n cap, .func (.func 127) #[] #[]] w fun e w' =>
      ∃ g c, e = .returned (.slice (some ⟨g, 0, none⟩) n c) ∧ w.heap.size ≤ g ∧ RowAt w' g 129 (n * 2) (icell (ring l)) ∧ Below w.heap.size w w' := by
  have HR := hide hr
  have HN := hide hn
  have hmk := fun w => run_make_rows (P := Tryz.prog) 113 129 _ 2 24 Tryz.underlying113 infoP .i64 .i64 n (by omega) (by omega) w
  have hcl := fun w hr => clone_pts f cap l w hr (by omega) (by omega)
  rw [hn] at hcl
  have HCL := hide hcl
  have hflt : f < w.heap.size := hr.lt
  clear hr hn hcl
  go_enter Tryz.func126, Tryz.ntmps126
  go_upto_region 1 with fail
  go_cut [5, 6] (fun s5 s6 wx => ∃ (g h c c' : Nat), s5 = .slice (some ⟨g, 0, none⟩) n c ∧ s6 = .slice (some ⟨h, 0, none⟩) n c' ∧ Hid (Two w wx n g h c c' l (icell [])))
  case first =>
    go_region_with (go_at_call 155; refine (unhide HCL _ ?_).mono ?_; (first | exact (unhide HR).of_block rfl | exact ((unhide HR).below (bel1 w _) (by omega)).of_block rfl | skip); rintro e w1 ⟨g, c, rfl, hg, hc, hrow, hb1⟩; have HG := hide hg; have HROW := hide hrow; have HB1 := hide hb1)
    all_goals
      go_wp2_with fail
      go_meet
      first
        | exact ⟨_, _, _, _, rfl, rfl, hide (twoA (unhide HG) hc (unhide HN) (unhide HROW) (below_drew (unhide HB1)))⟩
        | exact ⟨_, _, _, _, rfl, rfl, hide (twoB (by simpa using unhide HG) hc (unhide HN) (unhide HROW) (below_drew (by simpa using unhide HB1)))⟩
  case rest =>
    obtain ⟨g, h, c, c', rfl, rfl, htwo⟩ := hcut
    go_wp2
    go_loopw [5, 6, 7] (fun fv tv rv wr => ∃ (g h c c' r : Nat) (L : List D) (F : Nat → Value), fv = .slice (some ⟨g, 0, none⟩) n c ∧ tv = .slice (some ⟨h, 0, none⟩) n c' ∧ rv = .int .i64 (r : Int) ∧ 1 ≤ r ∧ r ≤ 800 ∧
        Hid (Two w wr n g h c c' L F) ∧ Hid (L.Perm l) ∧ Hid (Runs r L)) (fun _ _ rv _ => n - (intOf rv).toNat)
    case atStart => exact ⟨g, h, c, c', 1, l, icell [], rfl, rfl, rfl, by omega, by omega, htwo, hide (List.Perm.refl _), hide (runs_one l)⟩
    case round =>
      clear htwo
      obtain ⟨g, h, c, c', r, L, F, rfl, rfl, rfl, hr1, hr2, htwo, hperm, hruns⟩ := hrel
      by_cases hlt : r < n
      · go_wp2
        go_loopw [8] (fun av wr => ∃ (m at' : Nat) (T : List D), av = .int .i64 (at' : Int) ∧ at' ≤ 1600 ∧ Hid (at' = m * (2 * r)) ∧ Hid (Mid r L m T) ∧ Hid (Two w wr n g h c c' L (over F 0 T))) (fun av _ => n - (intOf av).toNat)
        case atStart => exact ⟨0, 0, [], rfl, Nat.zero_le _, hide (by simp), hide (mid_start r L), hide ((unhide htwo).merged ((unhide htwo).to'.congr (fun j _ => (over_nil F 0 j).symm)) (gb_refl _ _))⟩
        case round =>
          obtain ⟨m, at', T, rfl, hat, hatm, hmid, htw⟩ := hrel
          by_cases hla : at' < n
          · obtain ⟨hf, hhf⟩ : ∃ hf : Nat, hf = min (at' + r) n := ⟨_, rfl⟩
            obtain ⟨en, hen⟩ : ∃ en : Nat, en = min (at' + 2 * r) n := ⟨_, rfl⟩
            have e9 : min ((at' : Int) + r) n = (hf : Int) := by omega
            have e10 : min ((at' : Int) + 2 * r) n = (en : Int) := by omega
            have b1 : at' ≤ hf := by omega
            have b2 : hf ≤ en := by omega
            have b3 : en ≤ n := by omega
            have b4 : at' < en := by omega
            have htd := hide (unhide htw).drew
            have hcg := (unhide htw).cg
            have hch := (unhide htw).ch
            have hs1 := fun w => slice_run h n c' at' en (by omega) (by omega) w
            have hs2 := fun w => slice_run g n c at' hf (by omega) (by omega) w
            have hs3 := fun w => slice_run g n c hf en (by omega) (by omega) w
            rw [sadr_lt (show at' < c' by omega)] at hs1
            rw [sadr_lt (show at' < c by omega)] at hs2
            have hlA : (runA r L at').length = hf - at' := by rw [runA_length, (unhide htw).len]; omega
            have hlB : (runA r L (at' + r)).length = en - hf := by rw [runA_length, (unhide htw).len]; omega
            have hpB : PAt wr.drew g (sadr g hf c) (runA r L (at' + r)) := by
              by_cases hq : at' + r < n
              · have : hf = at' + r := by omega
                rw [← this]
                exact pat_piece (unhide htd).from' (unhide htw).len hf r _ (fun h => sadr_lt (by omega))
              · intro hne
                exact absurd (List.length_eq_zero_iff.1 (by rw [hlB]; omega)) hne
            have hpA := pat_piece (unhide htd).from' (unhide htw).len at' r _ (fun _ => rfl)
            have hmerge := merge_some h g (at' * 2) (n * 2) (en - at') (c' - at') (c - at') (c - hf) (some ⟨g, at' * 2, none⟩) (sadr g hf c) (runA r L at') (runA r L (at' + r)) (over F 0 T) wr.drew (unhide htd).ne (unhide htd).to' (by omega) (unhide htd).from'.lt hpA hpB (by rw [hlA, hlB]; omega) (by omega) (by rw [hlA]; omega) (by rw [hlB]; omega)
            rw [hlA, hlB] at hmerge
            generalize sadr g hf c = ad at hs3 hmerge
            have HM := hide hmerge
            clear hmerge hpA hpB hlA hlB hhf hen
            go_wp2
            go_region_with (go_at_call 156; refine (unhide HM).mono ?_; rintro e w1 ⟨rfl, hrow1, hgb1⟩; have HROW := hide hrow1; have HGB := hide hgb1)
            have HT2 : Hid (Two w w1 n g h c c' L (over F 0 (T ++ List.merge (runA r L at') (runA r L (at' + r)) le))) := by
              have hTl : T.length = at' := by have h1 := (unhide hmid).1; have h2 := (unhide htw).len; have h3 := unhide hatm; omega
              exact (unhide htd).merged ((unhide HROW).congr (fun j _ => by rw [← hTl]; exact over_append F T _ j)) (unhide HGB)
            have HM2 : Hid (Mid r L (m + 1) (T ++ List.merge (runA r L at') (runA r L (at' + r)) le)) := by
              have h3 := unhide hatm
              have h4 := mid_step (unhide hmid) (unhide hruns) (by rw [← h3, (unhide htw).len]; exact hla)
              rw [← h3] at h4
              exact h4
            have HA2 : Hid (at' + 2 * r = (m + 1) * (2 * r)) := by show at' + 2 * r = _; rw [Nat.add_mul, ← unhide hatm, Nat.one_mul]
            clear HROW HGB hs1 hs2 hs3 e9 e10
            go_wp2
            go_roundw
            case rel => exact ⟨m + 1, at' + 2 * r, _, by go_num, by omega, HA2, HM2, HT2⟩
            case measure => simp [intOf]; omega
          · have hE := mid_end (unhide hmid) (by rw [← unhide hatm, (unhide htw).len]; omega)
            have HP2 := hide (hE.2.1.trans (unhide hperm))
            have HR2 := hide hE.2.2
            have HT2 := hide ((unhide htw).swap (hE.1.trans (unhide htw).len))
            clear hE
            go_wp2
            go_roundw
            case rel => exact ⟨h, g, c', c, 2 * r, T, icell L, rfl, rfl, by go_num, by omega, by omega, HT2, HP2, HR2⟩
            case measure => simp [intOf]; omega
      · have HE : Hid (L = ring l) := ring_eq (unhide hperm) (runs_all (unhide hruns) (by rw [(unhide htwo).len]; omega))
        go_wp2
        go_ret
        exact ⟨g, c, rfl, (unhide htwo).g0, by rw [← unhide HE]; exact (unhide htwo).from', (unhide htwo).below⟩
end Ring
end Go.Proofs.YtkodgbalhnbhcaaGreatDoor
/-
  Contracts of the program's goodNodeName and GoodNodes: the model's plain functions, for every slice of nodes that lies in memory.
-/
namespace Go.Proofs.YtkodgbalhnbhcaaGreatDoor
namespace NodesM
open Go.RowKit Base GoodKey Nodes
set_option linter.unusedVariables false

theorem name_len (s : ByteArray) (h : (s.size : Int) < 1 ∨ 8 < (s.size : Int)) : nameB s.data.toList = false := by
  have el : s.data.toList.length = s.size := by simp
  have e : inB s.size 1 8 = false := by simp [inB]; omega
  simp [nameB, el, e]
theorem name_all (s : ByteArray) (k : Nat) (hk : k ≤ s.size) (h : ¬ k < s.size) (ha : (s.data.toList.take k).all okc = true) (h1 : ¬ (s.size : Int) < 1) (h2 : ¬ 8 < (s.size : Int)) : nameB s.data.toList = true := by
  rw [← nall_end s k hk h ha]; simp [inB]; omega

set_option maxRecDepth 10000 in
set_option maxHeartbeats 1000000 in
theorem iname_any (s : ByteArray) (w : World) (hs : s.size ≤ maxLen) :
    Calls Tryz.prog 100 #[.string s] w fun e w' => e = .returned (.bool (nameB s.data.toList)) ∧ w' = w := by
  unfold maxLen at hs
  by_cases hl1 : (s.size : Int) < 1
  · have H := hide (name_len s (.inl hl1))
    go_enter Tryz.func100, Tryz.ntmps100
    go_wp2
    go_ret
    exact ⟨ret_bool (unhide H).symm, rfl⟩
  by_cases hl2 : 8 < (s.size : Int)
  · have H := hide (name_len s (.inr hl2))
    go_enter Tryz.func100, Tryz.ntmps100
    go_wp2
    go_ret
    exact ⟨ret_bool (unhide H).symm, rfl⟩
  go_enter Tryz.func100, Tryz.ntmps100
  go_wp2
  go_loop [16] (fun i => ∃ k : Nat, k ≤ s.size ∧ i = .int .i64 k ∧ Hid ((s.data.toList.take k).all okc = true)) (fun i => s.size - (intOf i).toNat)
  case atStart => exact ⟨0, Nat.zero_le _, rfl, hide rfl⟩
  case round =>
    obtain ⟨k, hk, rfl, ha⟩ := hrel
    by_cases hlt : k < s.size
    · have hcase : (97 ≤ (s[k].toNat : Int) ∧ (s[k].toNat : Int) ≤ 122) ∨ (¬ 97 ≤ (s[k].toNat : Int) ∧ 48 ≤ (s[k].toNat : Int) ∧ (s[k].toNat : Int) ≤ 57) ∨ (97 ≤ (s[k].toNat : Int) ∧ ¬ (s[k].toNat : Int) ≤ 122) ∨
          (¬ 97 ≤ (s[k].toNat : Int) ∧ 48 ≤ (s[k].toNat : Int) ∧ ¬ (s[k].toNat : Int) ≤ 57) ∨ (¬ 97 ≤ (s[k].toNat : Int) ∧ ¬ 48 ≤ (s[k].toNat : Int)) := by omega
      rcases hcase with ⟨h1, h2⟩ | ⟨h1, h2, h3⟩ | ⟨h1, h2⟩ | ⟨h1, h2, h3⟩ | ⟨h1, h2⟩
      · have H := hide (nall_step s k hlt (unhide ha) (okc_yes (by omega)))
        have h3 : 48 ≤ (s[k].toNat : Int) := by omega
        have h4 : ¬ (s[k].toNat : Int) ≤ 57 := by omega
        go_wp2
        go_round
        case rel => exact ⟨k + 1, by omega, by go_num, H⟩
        case measure => simp [intOf]; omega
      · have H := hide (nall_step s k hlt (unhide ha) (okc_yes (by omega)))
        go_wp2
        go_round
        case rel => exact ⟨k + 1, by omega, by go_num, H⟩
        case measure => simp [intOf]; omega
      · have h3 : 48 ≤ (s[k].toNat : Int) := by omega
        have h4 : ¬ (s[k].toNat : Int) ≤ 57 := by omega
        have H := hide (nall_bad s k hlt (okc_no (by omega)))
        go_wp2
        go_ret
        exact ⟨ret_bool (unhide H).symm, rfl⟩
      · have H := hide (nall_bad s k hlt (okc_no (by omega)))
        go_wp2
        go_ret
        exact ⟨ret_bool (unhide H).symm, rfl⟩
      · have H := hide (nall_bad s k hlt (okc_no (by omega)))
        go_wp2
        go_ret
        exact ⟨ret_bool (unhide H).symm, rfl⟩
    · have H := hide (name_all s k hk hlt (unhide ha) (by omega) (by omega))
      go_wp2
      go_ret
      exact ⟨ret_bool (unhide H).symm, rfl⟩

theorem gn_len {l : List D} (h : (l.length : Int) < 1 ∨ 8 < (l.length : Int)) : gnB l = false := by
  have e : inB l.length 1 8 = false := by simp [inB]; omega
  simp [gnB, e]
theorem gn_all {l : List D} (h : goodTo l l.length = true) (h1 : ¬ (l.length : Int) < 1) (h2 : ¬ 8 < (l.length : Int)) : gnB l = true := by
  rw [← gn_end h]; simp [inB]; omega

set_option maxRecDepth 10000 in
set_option maxHeartbeats 2000000 in
theorem inodes_some (b off cap : Nat) (l : List D) (w : World) (hb : b < w.heap.size) (hc : ∀ i, i < l.length → At w b (off + i * 2) (l.getD i zero)) (hl : l.length ≤ maxLen) (hs : ∀ x ∈ l, Fits x) :
    Calls Tryz.prog 63 #[.slice (some ⟨b, off, none⟩) l.length cap] w fun e w' => e = .returned (.bool (gnB l)) ∧ Below w.heap.size w w' := by
  unfold maxLen at hl
  by_cases hl1 : (l.length : Int) < 1
  · have H := hide (gn_len (.inl hl1))
    clear hc hs
    go_enter Tryz.func63, Tryz.ntmps63
    go_wp2
    go_ret
    exact ⟨ret_bool (unhide H).symm, Below.refl _ _⟩
  by_cases hl2 : 8 < (l.length : Int)
  · have H := hide (gn_len (.inr hl2))
    clear hc hs
    go_enter Tryz.func63, Tryz.ntmps63
    go_wp2
    go_ret
    exact ⟨ret_bool (unhide H).symm, Below.refl _ _⟩
  have hcs := hide hc
  have hss := hide hs
  clear hc hs
  go_enter Tryz.func63, Tryz.ntmps63
  go_wp2
  go_loopw [15] (fun i wr => ∃ k : Nat, k ≤ l.length ∧ i = .int .i64 k ∧ Hid (goodTo l k = true) ∧ Hid (Below w.heap.size w wr)) (fun i _ => l.length - (intOf i).toNat)
  case atStart => exact ⟨0, Nat.zero_le _, rfl, hide rfl, hide (Below.refl _ _)⟩
  case round =>
    obtain ⟨k, hk, rfl, hg, hbel⟩ := hrel
    by_cases hlt : k < l.length
    · obtain ⟨c0, c1⟩ := (unhide hcs k hlt).below (unhide hbel) hb
      have hfit := hide (fits_getD (unhide hss) k hlt)
      have hbad := hide (@gn_bad l k hlt)
      have hgs := hide (@goodTo_step l k (unhide hg))
      have hzb := (unhide hbel).size
      have hstep : Hid (stepB l k = (nodeB (l.getD k zero) && (decide (k = 0) || Op.bytesLess (l.getD (k - 1) zero).name.toList (l.getD k zero).name.toList))) := rfl
      have hprev : 0 < k → wr.cell? ⟨b, off + (k - 1) * 2, none⟩ = some (.string (l.getD (k - 1) zero).name) := fun h => ((unhide hcs (k - 1) (by omega)).below (unhide hbel) hb).1
      generalize l.getD k zero = x at c0 c1 hfit hstep
      generalize (l.getD (k - 1) zero).name = pn at hprev hstep
      have hname := fun w => iname_any x.name w (unhide hfit)
      cases e1 : nameB x.name.data.toList
      · rw [e1] at hname
        have H := hide (unhide hbad (by rw [unhide hstep, nodeB, e1]; rfl))
        have HN := hide hname
        clear hname e1 hbad hgs hprev
        go_wp2_with (go_at_call 100; refine (unhide HN _).mono ?_; rintro e w' ⟨rfl, rfl⟩)
        go_ret
        exact ⟨ret_bool (unhide H).symm, (unhide hbel).alloc hzb _⟩
      rw [e1] at hname
      have HN := hide hname
      clear hname
      by_cases e2 : x.weight < 1
      · have H := hide (unhide hbad (by rw [unhide hstep, nodeB, e1, show inB x.weight 1 5 = false by simp [inB]; omega]; rfl))
        clear e1 hbad hgs hprev
        go_wp2_with (go_at_call 100; refine (unhide HN _).mono ?_; rintro e w' ⟨rfl, rfl⟩)
        go_ret
        exact ⟨ret_bool (unhide H).symm, (unhide hbel).alloc hzb _⟩
      by_cases e3 : 5 < x.weight
      · have H := hide (unhide hbad (by rw [unhide hstep, nodeB, e1, show inB x.weight 1 5 = false by simp [inB]; omega]; rfl))
        clear e1 hbad hgs hprev
        go_wp2_with (go_at_call 100; refine (unhide HN _).mono ?_; rintro e w' ⟨rfl, rfl⟩)
        go_ret
        exact ⟨ret_bool (unhide H).symm, (unhide hbel).alloc hzb _⟩
      have HST := hide ((unhide hstep).trans (by rw [nodeB, e1, show inB x.weight 1 5 = true by simp [inB]; omega]; rfl : _ = (decide (k = 0) || Op.bytesLess pn.toList x.name.toList)))
      clear hstep e1
      by_cases hk0 : k = 0
      · subst hk0
        have H := hide (unhide hgs (by rw [unhide HST]; rfl))
        rw [Nat.zero_mul, Nat.add_zero] at c0 c1
        clear hbad hgs hprev
        go_wp2_with (go_at_call 100; refine (unhide HN _).mono ?_; rintro e w' ⟨rfl, rfl⟩)
        go_quiet (fail)
        go_wp2
        go_roundw
        case rel => exact ⟨1, by omega, by go_num, H, hide (bel_draws ((unhide hbel).alloc hzb _) _)⟩
        case measure => simp [intOf]; omega
      · obtain ⟨j, rfl⟩ : ∃ j, k = j + 1 := ⟨k - 1, by omega⟩
        have p0 := hprev (by omega)
        rw [Nat.add_sub_cancel] at p0
        have hkp : decide (0 < ((j + 1 : Nat) : Int)) = true := by simp
        have hwj : IntKind.i64.wrap (j : Int) = (j : Int) := by rw [IntKind.wrap_i64]; omega
        have hjl : (j : Int) < (l.length : Int) := by omega
        have hbw : b < wr.heap.size := Nat.lt_of_lt_of_le hb hzb
        have hj0 : (0 : Int) ≤ (j : Int) := by omega
        clear hprev hk0
        cases e4 : Op.bytesLess pn.toList x.name.toList
        · have H := hide (unhide hbad (by rw [unhide HST, e4]; simp))
          clear hbad hgs
          go_wp2_with (go_at_call 100; refine (unhide HN _).mono ?_; rintro e w' ⟨rfl, rfl⟩)
          go_quiet (fail)
          go_wp2
          go_ret
          exact ⟨ret_bool (unhide H).symm, bel_draws ((unhide hbel).alloc hzb _) _⟩
        · have H := hide (unhide hgs (by rw [unhide HST, e4]; simp))
          clear hbad hgs
          go_wp2_with (go_at_call 100; refine (unhide HN _).mono ?_; rintro e w' ⟨rfl, rfl⟩)
          go_quiet (fail)
          go_wp2
          go_roundw
          case rel => exact ⟨j + 1 + 1, by omega, by go_num, H, hide (bel_draws ((unhide hbel).alloc hzb _) _)⟩
          case measure => simp [intOf]; omega
    · obtain rfl : k = l.length := by omega
      have H := hide (gn_all (unhide hg) (by omega) (by omega))
      go_wp2
      go_ret
      exact ⟨ret_bool (unhide H).symm, unhide hbel⟩
end NodesM
end Go.Proofs.YtkodgbalhnbhcaaGreatDoor
/-
  The program's ringOf and RingOf: the ring of good nodes, in a row of its own; nothing of others.
-/
namespace Go.Proofs.YtkodgbalhnbhcaaGreatDoor
namespace Ring
open Go.RowKit Base Points NumText Marks OwnR PointsW
set_option linter.unusedVariables false

theorem rowAt_own {w : World} {base : Nat} {v : Value} {l : List D} (h : w.ownsRow base 129 2 v l.length (flat l)) (h0 : 0 < l.length) : ∃ g c, v = .slice (some ⟨g, 0, none⟩) l.length c ∧ base ≤ g ∧ l.length ≤ c ∧ RowAt w g 129 (l.length * 2) (icell l) := by
  obtain ⟨g, c, rfl, hg, hc, -⟩ := own_some h h0
  obtain ⟨r, hours, -⟩ := own_ours h
  refine ⟨g, c, rfl, hg, hc, ?_⟩
  rcases hours with ⟨h, _⟩ | ⟨g', he, _, h⟩
  · omega
  · simp at he; rw [he]; exact h

set_option maxRecDepth 10000 in
set_option maxHeartbeats 4000000 in
theorem ringOf_some (b off cap : Nat) (l : List Nodes.D) (w : World) (hb : b < w.heap.size) (hc : ∀ i, i < l.length → Nodes.At w b (off + i * 2) (l.getD i Nodes.zero)) (hg : NodesM.gnB l = true) (hv : Vars w) :
    Calls Tryz.prog 93 #[.slice (some ⟨b, off, none⟩) l.length cap] w fun e w' =>
      ∃ g c, e = .returned (.slice (some ⟨g, 0, none⟩) (points l).length c) ∧ w.heap.size ≤ g ∧ RowAt w' g 129 ((points l).length * 2) (icell (ring (points l))) ∧ Below w.heap.size w w' := by
  obtain ⟨i0, hi, hz0, hz1, hz2⟩ := info_ex
  have HI := hide hi
  have HZ0 := hide hz0
  have HZ1 := hide hz1
  have HZ2 := hide hz2
  have hcs := hide hc
  have HG := hide hg
  have HV := hide hv
  have hl8 := (good_len hg).2
  have hp1 := points_pos hg
  have hp2 := points_len hg
  clear hi hz0 hz1 hz2 hc hg hv
  go_enter Tryz.func93, Tryz.ntmps93
  go_wp2
  go_loopw [3, 8] (fun v iv wr => ∃ k : Nat, k ≤ l.length ∧ iv = .int .i64 (k : Int) ∧ Hid (wr.ownsRow w.heap.size 129 2 v (points (l.take k)).length (flat (points (l.take k)))) ∧ Hid (Below w.heap.size w wr)) (fun _ iv _ => l.length - (intOf iv).toNat)
  case atStart => exact ⟨0, Nat.zero_le _, rfl, hide (World.ownsRow_nil _ _ _ _), hide (Below.refl _ _)⟩
  case round =>
    obtain ⟨k, hk, rfl, hown, hbel⟩ := hrel
    by_cases hlt : k < l.length
    · obtain ⟨c0, c1⟩ := (unhide hcs k hlt).below (unhide hbel) hb
      have hx := good_at (unhide HG) hlt
      have hpl := points_le (unhide HG) k hk
      have hst := hide (points_take_succ l k hlt)
      have hzw := (unhide hbel).size
      generalize l.getD k Nodes.zero = x at c0 c1 hx hst
      generalize points (l.take k) = P at hown hst hpl
      obtain ⟨-, -, hw1, hw2⟩ := node_bd hx
      obtain ⟨n, hn⟩ : ∃ n : Nat, 8 * x.weight = (n : Int) := ⟨(8 * x.weight).toNat, by omega⟩
      have hn40 : n ≤ 40 := by omega
      have hcal := fun w hv => pointsOf_some x n w hx hn hv
      have hsz : Hid (ptsOf x = ptsN x.name n) := by show ptsN x.name (8 * x.weight).toNat = _; rw [hn]; rfl
      have HC := hide hcal
      clear hcal hx hn
      go_wp2_with fail
      refine (unhide HC _ ((unhide HV).below ((unhide hbel).alloc hzw _))).mono ?_
      rintro e w1 ⟨bb, rfl, hbb, hrow, hb1⟩
      simp only [World.size_alloc] at hbb hb1
      have B1 := hide (((unhide hbel).alloc hzw _).trans (hb1.mono (by omega)))
      have O1 := hide (own_below (unhide hown) ((bel1 wr _).trans (hb1.mono (by omega))) (Nat.le_refl _))
      have hz1 : wr.heap.size < w1.heap.size := by have := hb1.size; simp at this; omega
      have HNW := hide (hrow.congr (g := icell (ptsN x.name n)) (fun _ _ => rfl))
      have HFL := hide ((flat_length (ptsN x.name n)).trans (by rw [ptsN_length]))
      have HFO := hide (flat_oneCell (ptsN x.name n))
      clear hb1 hrow
      go_wp2_with (at_builtin; go_loud (refine wpList_append_own _ rfl _ _ 113 rfl w.heap.size 129 i0 _ 2 24 Tryz.underlying113 (unhide HI) (unhide HZ0) (unhide HZ1) (unhide HZ2) rfl (by decide) _ _ _ rfl (unhide O1) ⟨bb, 0, none⟩ n n (flat (ptsN x.name n)) rfl (unhide HFL) ?c1 (unhide HFO) ?c3 ?c4 ?c5 ?_))
      case c1 => exact news_row (by rw [ptsN_length]; exact unhide HNW)
      case c3 => unfold maxLen; omega
      case c4 => omega
      case c5 => omega
      intro v' w2 hown' hgrow _
      have O2 : Hid (w2.ownsRow w.heap.size 129 2 v' (points (l.take (k + 1))).length (flat (points (l.take (k + 1))))) := by
        show w2.ownsRow _ _ _ _ _ _
        rw [unhide hst, unhide hsz, flat_append, List.length_append, ptsN_length]
        exact hown'
      have B2 := hide ((unhide B1).grown hgrow (by omega) (own_block (unhide O1)))
      clear hown' hgrow
      go_wp2
      go_roundw
      case rel => exact ⟨k + 1, by omega, by go_num, O2, B2⟩
      case measure => simp [intOf]; omega
    · obtain rfl : k = l.length := by omega
      rw [List.take_length] at hown
      obtain ⟨g, c, rfl, hg0, hgc, hrow⟩ := rowAt_own (unhide hown) hp1
      have HS := hide (sorted_some g c (points l).length (points l) wr hrow rfl hp1 (by omega))
      have hzw := (unhide hbel).size
      clear hrow
      go_wp2_with fail
      refine (unhide HS).mono ?_
      rintro e w1 ⟨g1, c1, rfl, hg1, hrow1, hb1⟩
      have HR1 := hide hrow1
      have HB1 := hide ((unhide hbel).trans (hb1.mono hzw))
      clear hrow1 hb1
      go_wp2
      go_ret
      exact ⟨g1, c1, rfl, by omega, unhide HR1, unhide HB1⟩

/-- What RingOf answers of a list of nodes. -/
def ringL (l : List Nodes.D) : List D := if NodesM.gnB l then ring (points l) else []
end Ring
end Go.Proofs.YtkodgbalhnbhcaaGreatDoor
/-
  Who owns a place on a ring: found by halving, and by one pass over the points; and boxes of one point. No Go function is spoken of here.
-/
namespace Go.Proofs.YtkodgbalhnbhcaaGreatDoor
namespace Ring
open Go.RowKit Base Points Marks
set_option linter.unusedVariables false

/-- Halving: below i all are below h, from j on none is. -/
def Halved (L : List D) (h : Int) (i j : Nat) : Prop := i ≤ j ∧ j ≤ L.length ∧ (∀ q, q < i → (L.getD q zero).pos < h) ∧ (∀ q, j ≤ q → q < L.length → h ≤ (L.getD q zero).pos)
theorem pos_mono {L : List D} (hs : Sorted L) {p q : Nat} (hpq : p ≤ q) (hq : q < L.length) : (L.getD p zero).pos ≤ (L.getD q zero).pos := by
  by_cases e : p = q
  · subst e; exact Int.le_refl _
  · have := List.pairwise_iff_getElem.1 hs p q (by omega) hq (by omega)
    rw [List.getD_eq_getElem?_getD, List.getD_eq_getElem?_getD, List.getElem?_eq_getElem (by omega), List.getElem?_eq_getElem hq]
    exact sorted_pos this
theorem halved_start (L : List D) (h : Int) : Halved L h 0 L.length := ⟨Nat.zero_le _, Nat.le_refl _, fun q hq => by omega, fun q h1 h2 => by omega⟩
theorem halved_low {L : List D} {h : Int} {i j m : Nat} (hs : Sorted L) (H : Halved L h i j) (h1 : i ≤ m) (h2 : m < j) (hm : (L.getD m zero).pos < h) : Halved L h (m + 1) j := by
  obtain ⟨a, b, c, d⟩ := H
  exact ⟨by omega, b, fun q hq => Int.lt_of_le_of_lt (pos_mono hs (show q ≤ m by omega) (by omega)) hm, d⟩
theorem halved_high {L : List D} {h : Int} {i j m : Nat} (hs : Sorted L) (H : Halved L h i j) (h1 : i ≤ m) (h2 : m < j) (hm : h ≤ (L.getD m zero).pos) : Halved L h i m := by
  obtain ⟨a, b, c, d⟩ := H
  exact ⟨h1, by omega, c, fun q hq1 hq2 => Int.le_trans hm (pos_mono hs hq1 hq2)⟩
/-- The name that stands there, going round. -/
theorem halved_end {L : List D} {h : Int} {i : Nat} (H : Halved L h i i) (h0 : 0 < L.length) : ownerN L h = (L.getD (if i < L.length then i else 0) zero).name := by
  obtain ⟨a, b, c, d⟩ := H
  by_cases hi : i < L.length
  · rw [if_pos hi]; exact find_at hi c (d i (Nat.le_refl _) hi)
  · rw [if_neg hi]; exact find_none (fun q hq => c q (by omega))

def filt (h : Int) (l : List D) : List D := l.filter (fun p => decide (h ≤ p.pos))
/-- One pass: the least of all so far, and of those that are not below h. -/
structure Best (L : List D) (h : Int) (k : Nat) (f b : D) (fd : Bool) : Prop where
  first : 0 < k → IsLeast (L.take k) f
  best : fd = true → IsLeast (filt h (L.take k)) b
  none : fd = false → filt h (L.take k) = []
theorem best_start (L : List D) (h : Int) (f b : D) : Best L h 0 f b false := ⟨fun h => by omega, fun h => by simp at h, fun _ => by simp [filt]⟩
theorem take_snoc' {L : List D} {k : Nat} (hk : k < L.length) : L.take (k + 1) = L.take k ++ [L.getD k zero] := by
  rw [List.take_succ_eq_append_getElem hk]; simp [hk]
theorem filt_snoc (h : Int) (l : List D) (x : D) : filt h (l ++ [x]) = filt h l ++ (if h ≤ x.pos then [x] else []) := by
  unfold filt
  rw [List.filter_append]
  by_cases hx : h ≤ x.pos <;> simp [hx]
def nf (k : Nat) (x f : D) : D := if k = 0 ∨ less x f = true then x else f
def nb (h : Int) (x b : D) (fd : Bool) : D := if h ≤ x.pos ∧ (fd = false ∨ less x b = true) then x else b
def nd (h : Int) (x b : D) (fd : Bool) : Bool := if h ≤ x.pos ∧ (fd = false ∨ less x b = true) then true else fd
theorem best_step {L : List D} {h : Int} {k : Nat} {f b : D} {fd : Bool} (H : Best L h k f b fd) (hk : k < L.length) : Best L h (k + 1) (nf k (L.getD k zero) f) (nb h (L.getD k zero) b fd) (nd h (L.getD k zero) b fd) := by
  obtain ⟨h1, h2, h3⟩ := H
  have et := take_snoc' hk
  generalize L.getD k zero = x at et
  refine ⟨fun _ => ?_, fun hd => ?_, fun hd => ?_⟩
  · rw [et]
    unfold nf
    by_cases h0 : k = 0
    · subst h0; rw [if_pos (.inl rfl)]; simpa using least_one x
    · by_cases hl : less x f = true
      · rw [if_pos (.inr hl)]; exact least_snoc_new (h1 (by omega)) hl
      · rw [if_neg (by rintro (h | h); exact h0 h; exact hl h)]; exact least_snoc_old (h1 (by omega)) (by simpa using hl)
  · rw [et, filt_snoc]
    unfold nd at hd
    unfold nb
    by_cases hx : h ≤ x.pos
    · rw [if_pos hx]
      cases fd with
      | false => rw [if_pos ⟨hx, .inl rfl⟩, h3 rfl]; exact least_one x
      | true =>
        by_cases hl : less x b = true
        · rw [if_pos ⟨hx, .inr hl⟩]; exact least_snoc_new (h2 rfl) hl
        · rw [if_neg (by rintro ⟨_, h | h⟩; exact absurd h (by simp); exact hl h)]; exact least_snoc_old (h2 rfl) (by simpa using hl)
    · rw [if_neg hx, List.append_nil]
      rw [if_neg (fun hh : h ≤ x.pos ∧ (fd = false ∨ less x b = true) => hx hh.1)] at hd ⊢
      exact h2 hd
  · rw [et, filt_snoc]
    unfold nd at hd
    by_cases hx : h ≤ x.pos
    · cases fd with
      | false => rw [if_pos ⟨hx, .inl rfl⟩] at hd; simp at hd
      | true => split at hd <;> simp at hd
    · rw [if_neg (fun hh => hx hh.1)] at hd
      rw [if_neg hx, List.append_nil]
      exact h3 hd
theorem best_end {L : List D} {h : Int} {f b : D} {fd : Bool} (H : Best L h L.length f b fd) (h0 : 0 < L.length) : ownerN (ring L) h = if fd then b.name else f.name := by
  obtain ⟨h1, h2, h3⟩ := H
  rw [List.take_length] at h1 h2 h3
  have hp : (filt h L).Perm ((ring L).filter (fun p => decide (h ≤ p.pos))) := (ring_perm L).symm.filter _
  cases fd with
  | true => exact owner_least (ring_sorted L) (least_perm hp (h2 rfl))
  | false =>
    have hn : (ring L).filter (fun p => decide (h ≤ p.pos)) = [] := by
      have := h3 rfl
      rw [this] at hp
      exact hp.symm.eq_nil
    exact owner_first (ring_sorted L) hn (least_perm (ring_perm L).symm (h1 h0))

/-- A box of one point. -/
def Box2 (w : World) (b : Nat) (t : TypeId) (x : D) : Prop := w.heap[b]? = some (.cells #[.int .u32 x.pos, .string x.name] t (0, 0))
section
variable {w w' : World} {b : Nat} {t : TypeId} {x : D}
theorem Box2.c0 (h : Box2 w b t x) : w.cell? ⟨b, 0, none⟩ = some (.int .u32 x.pos) := by simp [World.cell?, show w.heap[b]? = _ from h]
theorem Box2.c1 (h : Box2 w b t x) : w.cell? ⟨b, 1, none⟩ = some (.string x.name) := by simp [World.cell?, show w.heap[b]? = _ from h]
theorem Box2.fz (h : Box2 w b t x) (o : Nat) : w.frozen? ⟨b, o, none⟩ = false := by simp [World.frozen?, show w.heap[b]? = _ from h]
theorem Box2.lt (h : Box2 w b t x) : b < w.heap.size := (Array.getElem?_eq_some_iff.1 h).1
theorem Box2.of_block (h : Box2 w b t x) (e : w'.heap[b]? = w.heap[b]?) : Box2 w' b t x := e.trans h
theorem Box2.below {B : Nat} (h : Box2 w b t x) (hb : Below B w w') (hB : b < B) : Box2 w' b t x := h.of_block (hb.block b hB)
theorem Box2.alloc (h : Box2 w b t x) (o : Obj) : Box2 (w.alloc o) b t x := h.of_block (Below.heap_alloc _ _ _ h.lt)
theorem Box2.other (h : Box2 w b t x) {p : Addr} (hp : b ≠ p.block) (u : Value) : Box2 (w.setCell p u) b t x := h.of_block (Below.heap_setCell _ _ _ _ hp)
theorem Box2.new (w : World) (t : TypeId) (x : D) : Box2 (w.alloc (.cells #[.int .u32 x.pos, .string x.name] t)) w.heap.size t x := heap_alloc_new w _
theorem Box2.set (h : Box2 w b t x) (y : D) : Box2 ((w.setCell ⟨b, 0, none⟩ (.int .u32 y.pos)).setCell ⟨b, 1, none⟩ (.string y.name)) b t y := by
  unfold Box2 at *
  simp [World.setCell, Array.getElem?_modify, h]
end
end Ring
end Go.Proofs.YtkodgbalhnbhcaaGreatDoor
