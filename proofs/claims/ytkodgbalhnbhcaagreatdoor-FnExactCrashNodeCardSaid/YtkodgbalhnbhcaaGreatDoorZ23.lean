/-
  Who owns a place on a ring: found by halving, and by one pass over the points; and boxes of one point. No Go function is spoken of here.
-/
import Derived.Test.YtkodgbalhnbhcaaGreatDoorZ13
import Derived.Test.YtkodgbalhnbhcaaGreatDoorZ3
import Derived.Test.YtkodgbalhnbhcaaGreatDoorZ22
import Derived.Test.YtkodgbalhnbhcaaGreatDoorZ8
import Derived.Outline
import Derived.Test.YtkodgbalhnbhcaaGreatDoorZ17
import Derived.Test.YtkodgbalhnbhcaaGreatDoorZ18
namespace Go.Proofs.YtkodgbalhnbhcaaGreatDoor
namespace Ring
open Go.RowKit Base Points Marks
set_option linter.unusedVariables false

/-- Halving: below i all are below h, from j on none is. -/
def Halved (L : List D) (h : Int) (i j : Nat) : Prop := i ≤ j ∧ j ≤ L.length ∧ (∀ q, q < i → (L.getD q zero).pos < h) ∧ (∀ q, j ≤ q → q < L.length → h ≤ (L.getD q zero).pos)
theorem pos_mono {L : List D} (hs : Sorted L) {p q : Nat} (hpq : p ≤ q) (hq : q < L.length) : (L.getD p zero).pos ≤ (L.getD q zero).pos := by
  by_cases e : p = q
  · subst e; exact Int.le_refl _
  · have := List.pairwise_iff_getElem.1 hs p q (by omega) hq (by omega)
    rw [List.getD_eq_getElem?_getD, List.getD_eq_getElem?_getD, List.getElem?_eq_getElem (by omega), List.getElem?_eq_getElem hq]
    exact sorted_pos this
theorem halved_start (L : List D) (h : Int) : Halved L h 0 L.length := ⟨Nat.zero_le _, Nat.le_refl _, fun q hq => by omega, fun q h1 h2 => by omega⟩
theorem halved_low {L : List D} {h : Int} {i j m : Nat} (hs : Sorted L) (H : Halved L h i j) (h1 : i ≤ m) (h2 : m < j) (hm : (L.getD m zero).pos < h) : Halved L h (m + 1) j := by
  obtain ⟨a, b, c, d⟩ := H
  exact ⟨by omega, b, fun q hq => Int.lt_of_le_of_lt (pos_mono hs (show q ≤ m by omega) (by omega)) hm, d⟩
theorem halved_high {L : List D} {h : Int} {i j m : Nat} (hs : Sorted L) (H : Halved L h i j) (h1 : i ≤ m) (h2 : m < j) (hm : h ≤ (L.getD m zero).pos) : Halved L h i m := by
  obtain ⟨a, b, c, d⟩ := H
  exact ⟨h1, by omega, c, fun q hq1 hq2 => Int.le_trans hm (pos_mono hs hq1 hq2)⟩
/-- The name that stands there, going round. -/
theorem halved_end {L : List D} {h : Int} {i : Nat} (H : Halved L h i i) (h0 : 0 < L.length) : ownerN L h = (L.getD (if i < L.length then i else 0) zero).name := by
  obtain ⟨a, b, c, d⟩ := H
  by_cases hi : i < L.length
  · rw [if_pos hi]; exact find_at hi c (d i (Nat.le_refl _) hi)
  · rw [if_neg hi]; exact find_none (fun q hq => c q (by omega))

def filt (h : Int) (l : List D) : List D := l.filter (fun p => decide (h ≤ p.pos))
/-- One pass: the least of all so far, and of those that are not below h. -/
structure Best (L : List D) (h : Int) (k : Nat) (f b : D) (fd : Bool) : Prop where
  first : 0 < k → IsLeast (L.take k) f
  best : fd = true → IsLeast (filt h (L.take k)) b
  none : fd = false → filt h (L.take k) = []
theorem best_start (L : List D) (h : Int) (f b : D) : Best L h 0 f b false := ⟨fun h => by omega, fun h => by simp at h, fun _ => by simp [filt]⟩
theorem take_snoc' {L : List D} {k : Nat} (hk : k < L.length) : L.take (k + 1) = L.take k ++ [L.getD k zero] := by
  rw [List.take_succ_eq_append_getElem hk]; simp [hk]
theorem filt_snoc (h : Int) (l : List D) (x : D) : filt h (l ++ [x]) = filt h l ++ (if h ≤ x.pos then [x] else []) := by
  unfold filt
  rw [List.filter_append]
  by_cases hx : h ≤ x.pos <;> simp [hx]
def nf (k : Nat) (x f : D) : D := if k = 0 ∨ less x f = true then x else f
def nb (h : Int) (x b : D) (fd : Bool) : D := if h ≤ x.pos ∧ (fd = false ∨ less x b = true) then x else b
def nd (h : Int) (x b : D) (fd : Bool) : Bool := if h ≤ x.pos ∧ (fd = false ∨ less x b = true) then true else fd
theorem best_step {L : List D} {h : Int} {k : Nat} {f b : D} {fd : Bool} (H : Best L h k f b fd) (hk : k < L.length) : Best L h (k + 1) (nf k (L.getD k zero) f) (nb h (L.getD k zero) b fd) (nd h (L.getD k zero) b fd) := by
  obtain ⟨h1, h2, h3⟩ := H
  have et := take_snoc' hk
  generalize L.getD k zero = x at et
  refine ⟨fun _ => ?_, fun hd => ?_, fun hd => ?_⟩
  · rw [et]
    unfold nf
    by_cases h0 : k = 0
    · subst h0; rw [if_pos (.inl rfl)]; simpa using least_one x
    · by_cases hl : less x f = true
      · rw [if_pos (.inr hl)]; exact least_snoc_new (h1 (by omega)) hl
      · rw [if_neg (by rintro (h | h); exact h0 h; exact hl h)]; exact least_snoc_old (h1 (by omega)) (by simpa using hl)
  · rw [et, filt_snoc]
    unfold nd at hd
    unfold nb
    by_cases hx : h ≤ x.pos
    · rw [if_pos hx]
      cases fd with
      | false => rw [if_pos ⟨hx, .inl rfl⟩, h3 rfl]; exact least_one x
      | true =>
        by_cases hl : less x b = true
        · rw [if_pos ⟨hx, .inr hl⟩]; exact least_snoc_new (h2 rfl) hl
        · rw [if_neg (by rintro ⟨_, h | h⟩; exact absurd h (by simp); exact hl h)]; exact least_snoc_old (h2 rfl) (by simpa using hl)
    · rw [if_neg hx, List.append_nil]
      rw [if_neg (fun hh : h ≤ x.pos ∧ (fd = false ∨ less x b = true) => hx hh.1)] at hd ⊢
      exact h2 hd
  · rw [et, filt_snoc]
    unfold nd at hd
    by_cases hx : h ≤ x.pos
    · cases fd with
      | false => rw [if_pos ⟨hx, .inl rfl⟩] at hd; simp at hd
      | true => split at hd <;> simp at hd
    · rw [if_neg (fun hh => hx hh.1)] at hd
      rw [if_neg hx, List.append_nil]
      exact h3 hd
theorem best_end {L : List D} {h : Int} {f b : D} {fd : Bool} (H : Best L h L.length f b fd) (h0 : 0 < L.length) : ownerN (ring L) h = if fd then b.name else f.name := by
  obtain ⟨h1, h2, h3⟩ := H
  rw [List.take_length] at h1 h2 h3
  have hp : (filt h L).Perm ((ring L).filter (fun p => decide (h ≤ p.pos))) := (ring_perm L).symm.filter _
  cases fd with
  | true => exact owner_least (ring_sorted L) (least_perm hp (h2 rfl))
  | false =>
    have hn : (ring L).filter (fun p => decide (h ≤ p.pos)) = [] := by
      have := h3 rfl
      rw [this] at hp
      exact hp.symm.eq_nil
    exact owner_first (ring_sorted L) hn (least_perm (ring_perm L).symm (h1 h0))

/-- A box of one point. -/
def Box2 (w : World) (b : Nat) (t : TypeId) (x : D) : Prop := w.heap[b]? = some (.cells #[.int .u32 x.pos, .string x.name] t (0, 0))
section
variable {w w' : World} {b : Nat} {t : TypeId} {x : D}
theorem Box2.c0 (h : Box2 w b t x) : w.cell? ⟨b, 0, none⟩ = some (.int .u32 x.pos) := by simp [World.cell?, show w.heap[b]? = _ from h]
theorem Box2.c1 (h : Box2 w b t x) : w.cell? ⟨b, 1, none⟩ = some (.string x.name) := by simp [World.cell?, show w.heap[b]? = _ from h]
theorem Box2.fz (h : Box2 w b t x) (o : Nat) : w.frozen? ⟨b, o, none⟩ = false := by simp [World.frozen?, show w.heap[b]? = _ from h]
theorem Box2.lt (h : Box2 w b t x) : b < w.heap.size := (Array.getElem?_eq_some_iff.1 h).1
theorem Box2.of_block (h : Box2 w b t x) (e : w'.heap[b]? = w.heap[b]?) : Box2 w' b t x := e.trans h
theorem Box2.below {B : Nat} (h : Box2 w b t x) (hb : Below B w w') (hB : b < B) : Box2 w' b t x := h.of_block (hb.block b hB)
theorem Box2.alloc (h : Box2 w b t x) (o : Obj) : Box2 (w.alloc o) b t x := h.of_block (Below.heap_alloc _ _ _ h.lt)
theorem Box2.other (h : Box2 w b t x) {p : Addr} (hp : b ≠ p.block) (u : Value) : Box2 (w.setCell p u) b t x := h.of_block (Below.heap_setCell _ _ _ _ hp)
theorem Box2.new (w : World) (t : TypeId) (x : D) : Box2 (w.alloc (.cells #[.int .u32 x.pos, .string x.name] t)) w.heap.size t x := heap_alloc_new w _
theorem Box2.set (h : Box2 w b t x) (y : D) : Box2 ((w.setCell ⟨b, 0, none⟩ (.int .u32 y.pos)).setCell ⟨b, 1, none⟩ (.string y.name)) b t y := by
  unfold Box2 at *
  simp [World.setCell, Array.getElem?_modify, h]
end
end Ring
end Go.Proofs.YtkodgbalhnbhcaaGreatDoor
/-
  The program's search by halving and ownerIn: the name of the first point that is not below the key's hash, going round.
-/
namespace Go.Proofs.YtkodgbalhnbhcaaGreatDoor
namespace Ring
open Go.RowKit Base Points Marks
set_option linter.unusedVariables false

set_option maxRecDepth 10000 in
set_option maxHeartbeats 400000 in
theorem ownerCmp_any (x : D) (h : Int) (w : World) : Calls Tryz.prog 140 #[.agg #[.int .u32 x.pos, .string x.name], .int .u32 h] w fun e w' => e = .returned (.int .i64 (cmpI x.pos h)) ∧ Below w.heap.size w w' := by
  obtain ⟨p, m⟩ := x
  go_enter Tryz.func140, Tryz.ntmps140
  go_wp2_with (go_at_call 141; refine (compareU _ _ _).mono ?_; rintro e w' ⟨rfl, rfl⟩)
  go_ret
  exact ⟨rfl, bel1 w _⟩
theorem cmpI_lt (a b : Int) : decide (cmpI a b < 0) = decide (a < b) := by
  unfold cmpI
  by_cases h : a < b
  · simp [h]
  · rw [if_neg h]
    split <;> simp [h]
theorem at_pt {w : World} {g n : Nat} {t : TypeId} {L : List D} (h : RowAt w g t (n * 2) (icell L)) {i : Nat} (hi : i < n) : w.cell? ⟨g, i * 2, none⟩ = some (.int .u32 (L.getD i zero).pos) ∧ w.cell? ⟨g, i * 2 + 1, none⟩ = some (.string (L.getD i zero).name) := by
  refine ⟨?_, ?_⟩
  · rw [h.cell (by omega), icell, show (i * 2) % 2 = 0 by omega, show (i * 2) / 2 = i by omega]; simp
  · rw [h.cell (by omega), icell, show (i * 2 + 1) % 2 = 1 by omega, show (i * 2 + 1) / 2 = i by omega]; simp

set_option maxRecDepth 10000 in
set_option maxHeartbeats 2000000 in
theorem search_some (g cap n : Nat) (L : List D) (h : Int) (w : World) (hr : RowAt w g 129 (n * 2) (icell L)) (hn : L.length = n) (h1 : n ≤ 1000) (hs : Sorted L) :
    Calls Tryz.prog 138 #[.slice (some ⟨g, 0, none⟩) n cap, .int .u32 h, .func (.func 140) #[] #[]] w fun e w' =>
      ∃ (i : Nat) (fb : Bool), e = .returned (.tuple #[.int .i64 (i : Int), .bool fb]) ∧ i ≤ n ∧ Halved L h i i ∧ Below w.heap.size w w' := by
  have HR := hide hr
  have HN := hide hn
  have HS := hide hs
  have hglt := hr.lt
  clear hr hn hs
  go_enter Tryz.func138, Tryz.ntmps138
  go_wp2
  go_loopw [9, 10] (fun iv jv wr => ∃ (i j : Nat), iv = .int .i64 (i : Int) ∧ jv = .int .i64 (j : Int) ∧ i ≤ j ∧ j ≤ n ∧ Hid (Halved L h i j) ∧ Hid (Below w.heap.size w wr)) (fun iv jv _ => (intOf jv).toNat - (intOf iv).toNat)
  case atStart => exact ⟨0, n, rfl, rfl, Nat.zero_le _, Nat.le_refl _, hide (by have := halved_start L h; rwa [unhide HN] at this), hide (Below.refl _ _)⟩
  case round =>
    obtain ⟨i, j, rfl, rfl, hij, hjn, hH, hbel⟩ := hrel
    by_cases hlt : i < j
    · obtain ⟨c0, c1⟩ := at_pt ((unhide HR).below (unhide hbel) hglt) (show (i + j) / 2 < n by omega)
      have hlo := hide (halved_low (unhide HS) (unhide hH) (show i ≤ (i + j) / 2 by omega) (by omega))
      have hhi := hide (halved_high (unhide HS) (unhide hH) (show i ≤ (i + j) / 2 by omega) (by omega))
      have hm1 : i ≤ (i + j) / 2 := by omega
      have hm2 : (i + j) / 2 < j := by omega
      generalize L.getD ((i + j) / 2) zero = x at c0 c1 hlo hhi
      have hcl := fun w => ownerCmp_any x h w
      have hlt0 := cmpI_lt x.pos h
      generalize cmpI x.pos h = r at hcl hlt0
      have HCL := hide hcl
      clear hcl
      by_cases hx : x.pos < h
      · have hr0 : r < 0 := by have := hlt0.trans (decide_eq_true hx); simpa using this
        have HH := hide (unhide hlo hx)
        clear hlt0 hlo hhi
        go_wp2_with (go_at_call 140; refine (unhide HCL _).mono ?_; rintro e w1 ⟨rfl, hb1⟩; have HB1 := hide hb1)
        go_roundw
        case rel => exact ⟨(i + j) / 2 + 1, j, by go_num, rfl, by omega, hjn, HH, hide ((unhide hbel).trans ((unhide HB1).mono (unhide hbel).size))⟩
        case measure => simp [intOf]; omega
      · have hr0 : ¬ r < 0 := by have := hlt0.trans (decide_eq_false hx); simpa using this
        have HH := hide (unhide hhi (by omega))
        clear hlt0 hlo hhi
        go_wp2_with (go_at_call 140; refine (unhide HCL _).mono ?_; rintro e w1 ⟨rfl, hb1⟩; have HB1 := hide hb1)
        go_roundw
        case rel => exact ⟨i, (i + j) / 2, rfl, by go_num, by omega, by omega, HH, hide ((unhide hbel).trans ((unhide HB1).mono (unhide hbel).size))⟩
        case measure => simp [intOf]; omega
    · obtain rfl : i = j := by omega
      by_cases hin : i < n
      · obtain ⟨c0, c1⟩ := at_pt ((unhide HR).below (unhide hbel) hglt) hin
        generalize L.getD i zero = x at c0 c1
        have hcl := fun w => ownerCmp_any x h w
        generalize cmpI x.pos h = r at hcl
        have HCL := hide hcl
        clear hcl
        go_wp2_with (go_at_call 140; refine (unhide HCL _).mono ?_; rintro e w1 ⟨rfl, hb1⟩; have HB1 := hide hb1)
        go_ret2
        exact ⟨i, _, rfl, hjn, unhide hH, (unhide hbel).trans ((unhide HB1).mono (unhide hbel).size)⟩
      · go_wp2
        go_ret2
        exact ⟨i, _, rfl, hjn, unhide hH, unhide hbel⟩

set_option maxRecDepth 10000 in
set_option maxHeartbeats 1000000 in
theorem ownerIn_some (g cap n : Nat) (L : List D) (key : ByteArray) (w : World) (hr : RowAt w g 129 (n * 2) (icell L)) (hn : L.length = n) (h0 : 0 < n) (h1 : n ≤ 1000) (hs : Sorted L) (hk : key.size ≤ maxLen) :
    Calls Tryz.prog 104 #[.slice (some ⟨g, 0, none⟩) n cap, .string key] w fun e w' => e = .returned (.string (ownerN L (Hash.hashN key.data.toList))) ∧ Below w.heap.size w w' := by
  have hh := fun w => Hash.hash_any key w hk
  have hsr := fun h => search_some g cap n L h w hr hn h1 hs
  have hend := fun h i => @halved_end L h i
  generalize Hash.hashN key.data.toList = h at hh ⊢
  have hsr := hsr h
  have hend := hend h
  generalize ownerN L h = ans at hend ⊢
  rw [hn] at hend
  have HEND := hide hend
  have HH := hide hh
  have HSR := hide hsr
  have HR := hide hr
  have hglt := hr.lt
  clear hh hsr hr hs hend hn
  go_enter Tryz.func104, Tryz.ntmps104
  go_wp2_with fail
  refine (unhide HH _).mono ?_
  rintro e w1 ⟨rfl, rfl⟩
  go_wp2_with fail
  refine (unhide HSR).mono ?_
  rintro e w2 ⟨i, fb, rfl, hin, hH, hb2⟩
  have HE := hide (unhide HEND i hH h0)
  have HB := hide hb2
  have hlt2 : g < w2.heap.size := Nat.lt_of_lt_of_le hglt hb2.size
  have hmod : i % n = if i < n then i else 0 := by
    by_cases hi : i < n
    · rw [if_pos hi, Nat.mod_eq_of_lt hi]
    · obtain rfl : i = n := by omega
      rw [if_neg hi, Nat.mod_self]
  have hml : i % n < n := Nat.mod_lt _ h0
  obtain ⟨c0, c1⟩ := at_pt ((unhide HR).below hb2 hglt) hml
  have HE2 := unhide HE
  rw [← hmod] at HE2
  rw [← HE2] at c1
  have hm0 : (0 : Int) ≤ (i : Int) % (n : Int) := Int.emod_nonneg _ (by omega)
  have hm1 : (i : Int) % (n : Int) < (n : Int) := Int.emod_lt_of_pos _ (by omega)
  have hn0 : ¬ (n : Int) = 0 := by omega
  clear hb2 hH HE HE2 hmod c0
  go_wp2
  go_ret
  exact ⟨rfl, unhide HB⟩
end Ring
end Go.Proofs.YtkodgbalhnbhcaaGreatDoor
/-
  The program's isMoving and ringsOf.
-/
namespace Go.Proofs.YtkodgbalhnbhcaaGreatDoor
namespace Clus
open Go.RowKit Base GoodKey Marks
set_option linter.unusedVariables false

set_option maxRecDepth 10000 in
set_option maxHeartbeats 1000000 in
theorem moving_any (now nx lim lost : Int) (b1 b2 b3 : Nat) (ns cs : List Nodes.D) (L : List Pls.Pl) (w : World) :
    Calls Tryz.prog 64 #[.agg #[.int .i64 now, .int .i64 nx, .int .i64 lim, .int .i64 lost, .slice (some ⟨b1, 0, none⟩) ns.length ns.length, .slice (some ⟨b2, 0, none⟩) cs.length cs.length, .slice (some ⟨b3, 0, none⟩) L.length L.length]] w fun e w' => e = .returned (.bool (decide (0 < (cs.length : Int)))) ∧ Below w.heap.size w w' := by
  go_enter Tryz.func64, Tryz.ntmps64
  go_wp2
  go_ret
  exact ⟨ret_bool (by first | rfl | simp), bel1 w _⟩

set_option maxRecDepth 10000 in
set_option maxHeartbeats 2000000 in
theorem rings_any (now nx lim lost : Int) (b1 b2 b3 : Nat) (ns cs : List Nodes.D) (L : List Pls.Pl) (w : World) (hR : CR w b1 b2 b3 ns cs L) (h1 : NodesM.gnB ns = true) (h2 : cs = [] ∨ NodesM.gnB cs = true) (hv : Ring.Vars w) :
    Calls Tryz.prog 103 #[.agg #[.int .i64 now, .int .i64 nx, .int .i64 lim, .int .i64 lost, .slice (some ⟨b1, 0, none⟩) ns.length ns.length, .slice (some ⟨b2, 0, none⟩) cs.length cs.length, .slice (some ⟨b3, 0, none⟩) L.length L.length]] w fun e w' => ∃ g1 c1 g2 c2, e = .returned (.tuple #[.slice (some ⟨g1, 0, none⟩) (Ring.points ns).length c1, .slice (some ⟨g2, 0, none⟩) (Ring.points (goal ns cs)).length c2]) ∧
      RowAt w' g1 129 ((Ring.points ns).length * 2) (Points.icell (Ring.ring (Ring.points ns))) ∧ RowAt w' g2 129 ((Ring.points (goal ns cs)).length * 2) (Points.icell (Ring.ring (Ring.points (goal ns cs)))) ∧ Below w.heap.size w w' := by
  have HV := hide hv
  have RN := hide (fun w' (hb : Below w.heap.size w w') => Ring.ringOf_some b1 0 ns.length ns w' (hR.below hb (Nat.le_refl _)).n.lt (Nodes.at_row (hR.below hb (Nat.le_refl _)).n) h1 (hv.below hb))
  have HM := hide (fun w' => moving_any now nx lim lost b1 b2 b3 ns cs L w')
  rcases h2 with h2 | h2
  · have hcp : decide (0 < (cs.length : Int)) = false := by rw [h2]; rfl
    have eg : goal ns cs = ns := by rw [h2]; rfl
    rw [eg]
    rw [hcp] at HM
    clear hR h1 h2 hv eg hcp
    generalize (Ring.points ns).length = n at RN ⊢
    generalize Points.icell (Ring.ring (Ring.points ns)) = F at RN ⊢
    go_enter Tryz.func103, Tryz.ntmps103
    go_wp2_with fail
    refine (unhide RN _ (bel1 w _)).mono ?_
    rintro e w1 ⟨g1, c1, rfl, -, hr1, hb1⟩
    simp only [World.size_alloc] at hb1
    have B1 := hide ((bel1 w _).trans (hb1.mono (by omega)))
    have hx := boxcell hb1
    have R1 := hide hr1
    clear hb1 hr1
    go_wp2_with fail
    refine (unhide HM _).mono ?_
    rintro e w2 ⟨rfl, hb2⟩
    have B2 := hide ((unhide B1).trans (hb2.mono (unhide B1).size))
    have R2 := hide ((unhide R1).below hb2 (unhide R1).lt)
    clear hb2 hx R1
    go_wp2
    go_ret2
    exact ⟨g1, c1, g1, c1, rfl, unhide R2, unhide R2, unhide B2⟩
  · have hne : 0 < cs.length := List.length_pos_iff.2 (fun e => by rw [e] at h2; simp [NodesM.gnB, inB] at h2)
    have hcp : decide (0 < (cs.length : Int)) = true := by simp; omega
    have eg : goal ns cs = cs := by unfold goal; cases cs; simp at hne; rfl
    rw [eg]
    rw [hcp] at HM
    have RC := hide (fun w' (hb : Below w.heap.size w w') => Ring.ringOf_some b2 0 cs.length cs w' (hR.below hb (Nat.le_refl _)).c.lt (Nodes.at_row (hR.below hb (Nat.le_refl _)).c) h2 (hv.below hb))
    clear hR h1 h2 hv eg hcp hne
    generalize (Ring.points ns).length = n at RN ⊢
    generalize Points.icell (Ring.ring (Ring.points ns)) = F at RN ⊢
    generalize (Ring.points cs).length = m at RC ⊢
    generalize Points.icell (Ring.ring (Ring.points cs)) = G at RC ⊢
    go_enter Tryz.func103, Tryz.ntmps103
    go_wp2_with fail
    refine (unhide RN _ (bel1 w _)).mono ?_
    rintro e w1 ⟨g1, c1, rfl, -, hr1, hb1⟩
    simp only [World.size_alloc] at hb1
    have X1 := hide hb1
    have hz1 : w.heap.size + 1 ≤ w1.heap.size := by have := hb1.size; simp at this; omega
    have B1 := hide ((bel1 w _).trans (hb1.mono (by omega)))
    have hx := boxcell hb1
    have R1 := hide hr1
    clear hb1 hr1
    go_wp2_with fail
    refine (unhide HM _).mono ?_
    rintro e w2 ⟨rfl, hb2⟩
    have B2 := hide ((unhide B1).trans (hb2.mono (unhide B1).size))
    have X2 := hide ((unhide X1).trans (hb2.mono hz1))
    have hx2 := boxcell (unhide X2)
    have R2 := hide ((unhide R1).below hb2 (unhide R1).lt)
    clear hb2 hx R1 X1
    go_wp2_with fail
    refine (unhide RC _ (unhide B2)).mono ?_
    rintro e w3 ⟨g2, c2, rfl, -, hr3, hb3⟩
    have B3 := hide ((unhide B2).trans (hb3.mono (unhide B2).size))
    have R3 := hide ((unhide R2).below hb3 (unhide R2).lt)
    have S3 := hide hr3
    clear hb3 hr3 hx2 R2
    go_wp2
    go_ret2
    exact ⟨g1, c1, g2, c2, rfl, unhide R3, unhide S3, unhide B3⟩
end Clus
end Go.Proofs.YtkodgbalhnbhcaaGreatDoor
