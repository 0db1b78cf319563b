/-
  The model's cursor l1Cur: nodes. Only bounds of what is drawn are told.
-/
import Derived.Test.YtghckjmpcokhcaaGreatDoorCurZ
import Derived.Test.YtghckjmpcokhcaaGreatDoorNodeZ
namespace Go.Proofs.YtghckjmpcokhcaaGreatDoor
namespace Cur
open Go.RowKit Base Marks OwnR Nodes NodesW
set_option linter.unusedVariables false

theorem node_info : ∃ i, Tryz.prog.info? 87 = some i ∧ i.zero = some (.agg #[.string ByteArray.empty, .int .i64 0]) ∧ i.size = 2 ∧ i.bytes = 24 := by
  have h : (Tryz.prog.info? 87).map (fun i => (i.zero, i.size, i.bytes)) = some (some (.agg #[.string ByteArray.empty, .int .i64 0]), 2, 24) := by kernel_rfl
  obtain ⟨i, hi, hz⟩ := Option.map_eq_some_iff.1 h
  simp only [Prod.mk.injEq] at hz
  exact ⟨i, hi, hz.1, hz.2.1, hz.2.2⟩
def OwnN (w : World) (B : Nat) (v : Value) (l : List Nodes.D) : Prop := w.ownsRow B 87 2 v l.length (flat l)
def names : List ByteArray := [⟨#[97]⟩, ⟨#[98]⟩, ⟨#[99]⟩, ⟨#[110, 111, 100, 101, 49]⟩, ⟨#[120]⟩]
def odd : List ByteArray := [⟨#[]⟩, ⟨#[97]⟩, ⟨#[66]⟩, ⟨#[122]⟩, ⟨#[49, 50, 51, 52, 53, 54, 55, 56, 57]⟩]
def weights : List Int := [0, 5, 6]
theorem names_size (i : Nat) (h : i < 5) : (names.getD i ByteArray.empty).size ≤ 9 := by
  obtain rfl | rfl | rfl | rfl | rfl : i = 0 ∨ i = 1 ∨ i = 2 ∨ i = 3 ∨ i = 4 := by omega
  all_goals decide
theorem odd_size (i : Nat) (h : i < 5) : (odd.getD i ByteArray.empty).size ≤ 9 := by
  obtain rfl | rfl | rfl | rfl | rfl : i = 0 ∨ i = 1 ∨ i = 2 ∨ i = 3 ∨ i = 4 := by omega
  all_goals decide
theorem cellsN (w : World) (t : TypeId) (i : Nat) (h : i < 5) : (w.alloc (.cells (names.map (fun s => Value.string s)).toArray t)).cell? ⟨w.heap.size, i, none⟩ = some (.string (names.getD i ByteArray.empty)) := by
  rw [World.cell?_alloc_new]
  obtain rfl | rfl | rfl | rfl | rfl : i = 0 ∨ i = 1 ∨ i = 2 ∨ i = 3 ∨ i = 4 := by omega
  all_goals rfl
theorem cellsO (w : World) (t : TypeId) (i : Nat) (h : i < 5) : (w.alloc (.cells (odd.map (fun s => Value.string s)).toArray t)).cell? ⟨w.heap.size, i, none⟩ = some (.string (odd.getD i ByteArray.empty)) := by
  rw [World.cell?_alloc_new]
  obtain rfl | rfl | rfl | rfl | rfl : i = 0 ∨ i = 1 ∨ i = 2 ∨ i = 3 ∨ i = 4 := by omega
  all_goals rfl
theorem cellsW (w : World) (t : TypeId) (i : Nat) (h : i < 3) : (w.alloc (.cells #[.int .i64 0, .int .i64 5, .int .i64 6] t)).cell? ⟨w.heap.size, i, none⟩ = some (.int .i64 (weights.getD i 0)) := by
  rw [World.cell?_alloc_new]
  obtain rfl | rfl | rfl : i = 0 ∨ i = 1 ∨ i = 2 := by omega
  all_goals rfl
theorem own_one (w : World) {B : Nat} (hB : B ≤ w.heap.size) (x : Nodes.D) : OwnN (w.alloc (.cells #[.string x.name, .int .i64 x.weight] 87)) B (.slice (some ⟨w.heap.size, 0, none⟩) 1 1) [x] := by
  refine ⟨rfl, .inr ⟨w.heap.size, 1, _, rfl, hB, heap_alloc_new w _, Nat.le_refl _, by unfold maxLen; omega, rfl, ?_⟩⟩
  simp [flat, cellsOf]
theorem snocN {l : List Nodes.D} {x : Nodes.D} (h : ∀ y ∈ l, y.name.size ≤ 9) (hs : x.name.size ≤ 9) : ∀ y ∈ l ++ [x], y.name.size ≤ 9 := fun y hy => by
  rcases List.mem_append.1 hy with hy | hy
  · exact h y hy
  · rw [List.mem_singleton.1 hy]; exact hs
/-- What is drawn. -/
def NodesDrawn (w0 w : World) (c : Nat) (a : Option Addr) (n cap k : Nat) (e : Ending) (w' : World) : Prop :=
  ∃ (l : List Nodes.D) (b : Option Addr) (cb : Nat), e = .returned (.slice b l.length cb) ∧ (l.length ≤ 6 ∧ l.length ≤ cb) ∧ (∀ x ∈ l, x.name.size ≤ 9) ∧ Nodes.LAt w' b l ∧ (∀ g o, b = some ⟨g, o, none⟩ → w.heap.size ≤ g ∧ g < w'.heap.size) ∧ Cu w0 w' c a n cap (k + 50) ∧ w.grownBy w' (some c)
theorem ownN_form {w : World} {B : Nat} {b : Option Addr} {cb : Nat} {l : List Nodes.D} (h : OwnN w B (.slice b l.length cb) l) : Nodes.LAt w b l ∧ ∀ g o, b = some ⟨g, o, none⟩ → B ≤ g ∧ g < w.heap.size := by
  obtain ⟨r, h1, h2⟩ := own_ours h
  refine ⟨ours_at h1, fun g o e => ?_⟩
  rcases h.2 with ⟨hv, _⟩ | ⟨g', cap', cur, hv, hg, hh, _⟩
  · simp only [Value.slice.injEq] at hv; rw [e] at hv; simp at hv
  · simp only [Value.slice.injEq] at hv
    rw [e] at hv
    simp only [Option.some.injEq, Addr.mk.injEq] at hv
    have := (Array.getElem?_eq_some_iff.1 hh).1
    omega
theorem own_cap {w : World} {B : Nat} {b : Option Addr} {cb : Nat} {l : List Nodes.D} (h : OwnN w B (.slice b l.length cb) l) : l.length ≤ cb := by
  rcases h.2 with ⟨hv, h1⟩ | ⟨g', cap', cur, hv, _, _, hc, _⟩
  · omega
  · simp only [Value.slice.injEq] at hv; omega
theorem own_drawn {w0 w w' : World} {c : Nat} {a : Option Addr} {n cap k : Nat} {b : Option Addr} {cb : Nat} {l : List Nodes.D} (h : OwnN w' w.heap.size (.slice b l.length cb) l) (hl : l.length ≤ 6) (hs : ∀ x ∈ l, x.name.size ≤ 9) (hc : Cu w0 w' c a n cap (k + 50)) (hg : w.grownBy w' (some c)) : NodesDrawn w0 w c a n cap k (.returned (.slice b l.length cb)) w' :=
  ⟨l, b, cb, rfl, ⟨hl, own_cap h⟩, hs, (ownN_form h).1, (ownN_form h).2, hc, hg⟩
theorem ownN_some {w : World} {B : Nat} {b : Option Addr} {cb : Nat} {l : List Nodes.D} (h : OwnN w B (.slice b l.length cb) l) (h0 : 0 < l.length) : ∃ g, b = some ⟨g, 0, none⟩ := by
  rcases h.2 with ⟨hv, h1⟩ | ⟨g', cap', cur, hv, _⟩
  · omega
  · simp only [Value.slice.injEq] at hv
    exact ⟨g', hv.1⟩
theorem ownN_cell {w : World} {B g : Nat} {cb n : Nat} {l : List Nodes.D} (h : OwnN w B (.slice (some ⟨g, 0, none⟩) n cb) l) (h0 : 0 < l.length) : ∃ y, w.cell? ⟨g, 1, none⟩ = some (.int .i64 y) ∧ ∀ o, w.frozen? ⟨g, o, none⟩ = false := by
  have hn : n = l.length := by
    rcases h.2 with ⟨hv, _⟩ | ⟨g', cap', cur, hv, _⟩
    · simp at hv
    · simp only [Value.slice.injEq] at hv; exact hv.2.1
  subst hn
  obtain ⟨h1, _⟩ := ownN_form h
  obtain ⟨b, off, hb, _, hcc⟩ := h1 (by intro e; simp [e] at h0)
  simp only [Option.some.injEq, Addr.mk.injEq, and_true] at hb
  obtain ⟨rfl, rfl⟩ := hb
  refine ⟨_, by simpa using (hcc 0 h0).2, fun o => ?_⟩
  rcases h.2 with ⟨hv, _⟩ | ⟨g', cap', cur, hv, _, hh, _⟩
  · simp at hv
  · simp only [Value.slice.injEq, Option.some.injEq, Addr.mk.injEq, and_true] at hv
    obtain ⟨rfl, _⟩ := hv
    simp [World.frozen?, hh]
/-- The first one's weight is another. -/
theorem set_drawn {w0 w w' : World} {c : Nat} {a : Option Addr} {n cap k g : Nat} {cb : Nat} {l : List Nodes.D} (v : Int) (h : OwnN w' w.heap.size (.slice (some ⟨g, 0, none⟩) l.length cb) l) (h0 : 0 < l.length) (hcw : c < w.heap.size) (hl : l.length ≤ 6) (hs : ∀ x ∈ l, x.name.size ≤ 9) (hc : Cu w0 w' c a n cap (k + 50)) (hg : w.grownBy w' (some c)) :
    NodesDrawn w0 w c a n cap k (.returned (.slice (some ⟨g, 0, none⟩) l.length cb)) (w'.setCell ⟨g, 1, none⟩ (.int .i64 v)) := by
  obtain ⟨x, r, rfl⟩ : ∃ x r, l = x :: r := by cases l with | nil => simp at h0 | cons x r => exact ⟨x, r, rfl⟩
  obtain ⟨h1, h2⟩ := ownN_form h
  obtain ⟨hg1, hg2⟩ := h2 g 0 rfl
  obtain ⟨b, off, hb, hlt, hcc⟩ := h1 (by simp)
  simp only [Option.some.injEq, Addr.mk.injEq, and_true] at hb
  obtain ⟨rfl, rfl⟩ := hb
  have hgr := gb_set (Marks.gb_refl w' (some g)) 1 (.int .i64 v)
  refine ⟨⟨x.name, v⟩ :: r, some ⟨g, 0, none⟩, cb, rfl, ⟨hl, (own_cap h : (x :: r).length ≤ cb)⟩, fun y hy => ?_, fun _ => ⟨g, 0, rfl, by have := hgr.size; omega, fun i hi => ?_⟩, fun g' o e => ?_, hc.gbN hgr (fun k e => by simp at e; omega), ?_⟩
  · rcases List.mem_cons.1 hy with rfl | hy
    · exact hs x (by simp)
    · exact hs y (by simp [hy])
  · obtain ⟨c0, c1⟩ := hcc i hi
    by_cases hi0 : i = 0
    · subst hi0
      refine ⟨?_, ?_⟩
      · rw [World.cell?_setCell_other _ _ _ _ (by simp)]; simpa using c0
      · have := World.cell?_setCell_same w' ⟨g, 1, none⟩ (.int .i64 v) (by simpa using c1)
        simpa using this
    · obtain ⟨j, rfl⟩ : ∃ j, i = j + 1 := ⟨i - 1, by omega⟩
      refine ⟨?_, ?_⟩
      · rw [World.cell?_setCell_other _ _ _ _ (by first | (simp; done) | (simp; omega))]; simpa using c0
      · rw [World.cell?_setCell_other _ _ _ _ (by first | (simp; done) | (simp; omega))]; simpa using c1
  · simp only [Option.some.injEq, Addr.mk.injEq] at e
    have := hgr.size
    omega
  · exact StrN.gb_own hg hgr (fun k e => by simp at e; omega)

set_option maxRecDepth 10000 in
set_option maxHeartbeats 4000000 in
theorem nodes_any (w0 w : World) (c : Nat) (a : Option Addr) (n cap k : Nat) (z : Nat → Int) (hz : BAt w0 a n z) (hn : n ≤ 1048576) (hk : k ≤ 1000) (h : Cu w0 w c a n cap k) :
    Calls Tryz.prog 19 #[.pointer (some ⟨c, 0, none⟩)] w (NodesDrawn w0 w c a n cap k) := by
  have HP := hide (fun (m : Nat) (hm : 1 ≤ m ∧ m ≤ 200) k (hk : k ≤ 10000) w' h => pick_any w0 w' c a n cap k m z hz hn (by omega) h hm)
  have HO := hide (fun (m : Nat) (hm : 1 ≤ m ∧ m ≤ 200) k (hk : k ≤ 10000) w' h => one_any w0 w' c a n cap k m z hz hn (by omega) h hm)
  have HF := hide (fun k (hk : k ≤ 10000) w' lb h h1 h2 hc => of_any w0 w' c a n cap k lb 5 odd z hz hn (by omega) h (by decide) h1 h2 hc)
  have HA := hide (fun k (hk : k ≤ 10000) w' lb h h1 h2 hc => among_any w0 w' c a n cap k lb 3 weights z hz hn (by omega) h (by decide) h1 h2 hc)
  obtain ⟨i0, hi, hz0, hz1, hz2⟩ := node_info
  have HI := hide hi
  have HZ0 := hide hz0
  have HZ1 := hide hz1
  have HZ2 := hide hz2
  have hcw := h.lt
  obtain ⟨w1, hw1⟩ : ∃ v, v = w.alloc (.cells (names.map (fun s => Value.string s)).toArray 9) := ⟨_, rfl⟩
  have hN : ∀ i, i < 5 → w1.cell? ⟨w.heap.size, i, none⟩ = some (.string (names.getD i ByteArray.empty)) := fun i hi => by rw [hw1]; exact cellsN w _ i hi
  have hC : Cu w0 w1 c a n cap k := by rw [hw1]; exact h.alloc _
  have hG : w.grownBy w1 (some c) := by rw [hw1]; exact gb_below (bel1 w _) (Nat.le_refl _)
  have hz1' : w1.heap.size = w.heap.size + 1 := by rw [hw1]; simp
  have HN := hide hN
  have C1 := hide hC
  have G1 := hide hG
  have HW := hide hw1
  clear hz hi hz0 hz1 hz2 h hN hC hG hw1
  go_enter Tryz.func19, Tryz.ntmps19
  go_wp2_with fail
  rw [show w.alloc (.cells #[.string ⟨#[97]⟩, .string ⟨#[98]⟩, .string ⟨#[99]⟩, .string ⟨#[110, 111, 100, 101, 49]⟩, .string ⟨#[120]⟩] 9) = w1 from (unhide HW).symm]
  clear HW
  go_loopw [3, 8] (fun lv iv wr => ∃ (i : Nat) (l : List Nodes.D) (v : Value), i ≤ 5 ∧ l.length ≤ i ∧ v = lv ∧ iv = .int .i64 i ∧ Hid (∀ x ∈ l, x.name.size ≤ 9) ∧ Hid (OwnN wr (w.heap.size + 1) v l) ∧ Hid (Cu w0 wr c a n cap (k + 2 * i)) ∧ Hid (w1.grownBy wr (some c))) (fun _ iv _ => 5 - (intOf iv).toNat)
  case atStart => exact ⟨0, [], _, Nat.zero_le _, by simp, rfl, rfl, hide (fun x hx => absurd hx (by simp)), hide (World.ownsRow_nil _ _ _ _), C1, hide (Marks.gb_refl _ _)⟩
  case round =>
    obtain ⟨i, l, v, hi, hl, hv, rfl, hsz, O2, C2, G2⟩ := hrel
    subst hv
    clear C1
    have hzw := (unhide G2).size
    by_cases hlt : i < 5
    · have hw0r : w.heap.size < wr.heap.size := by omega
      have cn := (gb_cell (unhide G2) (b := w.heap.size) (by omega) (by omega) i).trans (unhide HN i hlt)
      have hns := names_size i hlt
      generalize names.getD i ByteArray.empty = nm at cn hns
      go_wp2_with fail
      refine (unhide HO 2 (by omega) (k + 2 * i) (by omega) _ (unhide C2)).mono ?_
      rintro e w3 ⟨b3, rfl, hcu, hg⟩
      have O3 := hide (StrN.own_gb (unhide O2) hg (show c < w.heap.size + 1 by omega))
      have C3 := hide hcu
      have G3 := hide (gb_trans (unhide G2) hg)
      clear hcu hg O2 C2 G2 cn
      cases b3
      · go_wp2
        go_roundw
        case rel => exact ⟨i + 1, l, _, by omega, by omega, rfl, by go_num, hsz, O3, hide ((unhide C3).le (by omega)), G3⟩
        case measure => simp [intOf]; omega
      · go_wp2_with fail
        refine (unhide HP 3 (by omega) (k + 2 * i + 1) (by omega) _ (unhide C3)).mono ?_
        rintro e w4 ⟨r4, rfl, hr4, hcu, hg⟩
        have O4 := hide (StrN.own_gb (unhide O3) hg (show c < w.heap.size + 1 by omega))
        have C4 := hide hcu
        have G4 := hide (gb_trans (unhide G3) hg)
        have z4 := (unhide G4).size
        clear hcu hg O3 C3 G3
        go_wp2_with (at_builtin; go_loud (refine wpList_append_own _ rfl _ _ 23 rfl (w.heap.size + 1) 87 i0 _ 2 24 Tryz.underlying23 (unhide HI) (unhide HZ0) (unhide HZ1) (unhide HZ2) rfl (by decide) _ _ _ rfl ((unhide O4).alloc _) ⟨w4.heap.size, 0, none⟩ 1 1 (cellsOf ⟨nm, 1 + (r4 : Int)⟩) rfl rfl ?c1 ?c2 ?c3 ?c4 ?c5 ?_))
        case c1 => exact news_cells w4 ⟨nm, 1 + (r4 : Int)⟩ _
        case c2 => exact news_one ⟨nm, 1 + (r4 : Int)⟩
        case c3 => unfold maxLen; omega
        case c4 => omega
        case c5 => simp; omega
        intro v' w5 hown' hgrow _
        have O5 : Hid (OwnN w5 (w.heap.size + 1) v' (l ++ [⟨nm, 1 + (r4 : Int)⟩])) := own_snoc hown' rfl
        have C5 := hide ((((unhide C4).alloc _).gbN hgrow (fun g e => by have := own_block (unhide O4) g e; omega)).le (show k + 2 * i + 1 + 1 ≤ k + 2 * (i + 1) by omega))
        have G5 := hide (StrN.gb_own (gb_trans (unhide G4) (gb_below (r := some c) (bel1 w4 _) (Nat.le_refl _))) hgrow (fun g e => by have := own_block (unhide O4) g e; omega))
        have S5 := hide (snocN (x := ⟨nm, 1 + (r4 : Int)⟩) (unhide hsz) hns)
        clear hown' hgrow
        go_wp2
        go_roundw
        case rel => exact ⟨i + 1, l ++ [⟨nm, 1 + (r4 : Int)⟩], _, by omega, by rw [List.length_append, List.length_singleton]; omega, rfl, by go_num, S5, O5, C5, G5⟩
        case measure => simp [intOf]; omega
    · obtain rfl : i = 5 := by omega
      obtain ⟨b2, cb2, hvs⟩ := own_form (unhide O2)
      subst hvs
      have O2' : Hid (OwnN wr w.heap.size (.slice b2 l.length cb2) l) := own_le (unhide O2) (by omega)
      have G2' := hide (gb_trans (unhide G1) (unhide G2))
      have C2' := hide ((unhide C2).le (show k + 2 * 5 ≤ k + 11 by omega))
      clear O2 G2 C2 G1 hi hlt
      by_cases h0 : l.length = 0
      · obtain rfl : l = [] := List.length_eq_zero_iff.1 h0
        go_wp2_with fail
        refine (unhide HO 6 (by omega) (k + 11) (by omega) _ (unhide C2')).mono ?_
        rintro e w3 ⟨b3, rfl, hcu, hg⟩
        have O3 := hide (StrN.own_gb (unhide O2') hg hcw)
        have C3 := hide hcu
        have G3 := hide (gb_trans (unhide G2') hg)
        clear hcu hg O2' C2' G2' h0
        have z3 := (unhide G3).size
        cases b3
        · have O4 : Hid (OwnN (w3.alloc (.cells #[.string ⟨#[97]⟩, .int .i64 1] 87)) w.heap.size (.slice (some ⟨w3.heap.size, 0, none⟩) 1 1) [⟨⟨#[97]⟩, 1⟩]) := own_one w3 z3 ⟨⟨#[97]⟩, 1⟩
          have C4 := hide ((unhide C3).alloc (.cells #[.string ⟨#[97]⟩, .int .i64 1] 87))
          have G4 := hide (gb_trans (unhide G3) (gb_below (r := some c) (bel1 w3 (.cells #[.string ⟨#[97]⟩, .int .i64 1] 87)) (Nat.le_refl _)))
          have S4 : Hid (∀ x ∈ ([⟨⟨#[97]⟩, 1⟩] : List Nodes.D), x.name.size ≤ 9) := fun x hx => by rw [List.mem_singleton.1 hx]; decide
          go_wp2_with fail
          refine (unhide HP 40 (by omega) (k + 12) (by omega) _ (unhide C4)).mono ?_
          rintro e w6 ⟨p, rfl, hp, hcu, hg⟩
          have O6 := hide (StrN.own_gb (unhide O4) hg hcw)
          have C6 := hide hcu
          have G6 := hide (gb_trans (unhide G4) hg)
          clear hcu hg
          have hcl := (unhide C6).lt
          by_cases p0 : p = 0
          · subst p0
            go_wp2_with fail
            refine (unhide HF (k + 13) (by omega) _ w6.heap.size ((unhide C6).alloc _) (by simp) (by omega) (fun i hi => cellsO w6 _ i hi)).mono ?_
            rintro e w7 ⟨x, rfl, hx, hcu, hg⟩
            have hs7 := odd_size x hx
            have O7 := hide (StrN.own_gb ((unhide O6).alloc _) hg hcw)
            have C7 := hide hcu
            have G7 := hide (gb_trans (gb_trans (unhide G6) (gb_below (r := some c) (bel1 w6 _) (Nat.le_refl _))) hg)
            have z7 := (unhide G7).size
            clear hcu hg hx
            generalize odd.getD x ByteArray.empty = nm at hs7 ⊢
            go_wp2_with (at_builtin; go_loud (refine wpList_append_own _ rfl _ _ 23 rfl w.heap.size 87 i0 _ 2 24 Tryz.underlying23 (unhide HI) (unhide HZ0) (unhide HZ1) (unhide HZ2) rfl (by decide) _ _ _ rfl ((unhide O7).alloc _) ⟨w7.heap.size, 0, none⟩ 1 1 (cellsOf ⟨nm, 1⟩) rfl rfl ?c1 ?c2 ?c3 ?c4 ?c5 ?_))
            case c1 => exact news_cells w7 ⟨nm, 1⟩ _
            case c2 => exact news_one ⟨nm, 1⟩
            case c3 => first | (unfold maxLen; omega) | (simp [maxLen])
            case c4 => first | omega | simp
            case c5 => simp; omega
            intro v' w8 hown' hgrow _
            have O8 : OwnN w8 w.heap.size v' ([⟨⟨#[97]⟩, 1⟩] ++ [⟨nm, 1⟩]) := own_snoc hown' rfl
            obtain ⟨b8, cb8, hv8⟩ := own_form O8
            subst hv8
            have C8 := (((unhide C7).alloc _).gbN hgrow (fun g e => by have := own_block (unhide O7) g e; omega)).le (show k + 13 + 1 ≤ k + 50 by omega)
            have G8 := StrN.gb_own (gb_trans (unhide G7) (gb_below (r := some c) (bel1 w7 _) (Nat.le_refl _))) hgrow (fun g e => own_block (unhide O7) g e)
            have HD := hide (own_drawn O8 (by rw [List.length_append, List.length_singleton]; first | omega | simp) (snocN (unhide S4) hs7) C8 G8)
            clear hown' hgrow O8 C8 G8
            go_wp2
            go_ret
            exact unhide HD
          by_cases p1 : p = 1
          · subst p1
            go_wp2_with fail
            refine (unhide HA (k + 13) (by omega) _ w6.heap.size ((unhide C6).alloc _) (by simp) (by omega) (fun i hi => cellsW w6 _ i hi)).mono ?_
            rintro e w7 ⟨x, rfl, hx, hcu, hg⟩
            have O7 : Hid (OwnN w7 w.heap.size (.slice (some ⟨w3.heap.size, 0, none⟩) 1 1) [⟨⟨#[97]⟩, 1⟩]) := hide (StrN.own_gb ((unhide O6).alloc _) hg hcw)
            have C7 := (hcu.le (show k + 13 + 1 ≤ k + 50 by omega))
            have G7 := gb_trans (gb_trans (unhide G6) (gb_below (r := some c) (bel1 w6 _) (Nat.le_refl _))) hg
            generalize weights.getD x 0 = wv
            obtain ⟨y1, hy1, hfy⟩ := ownN_cell (unhide O7) (by first | exact hl0 | simp)
            have HD := hide (set_drawn (k := k) wv (unhide O7) (by first | exact hl0 | simp) hcw (by first | omega | simp) (unhide S4) C7 G7)
            have zg := ((ownN_form (unhide O7)).2 _ _ rfl).2
            clear hcu hg hx C7 G7
            go_wp2
            go_ret
            exact unhide HD
          have q0 : ((p : Int) == 0) = false := by simp; omega
          have q1 : ((p : Int) == 1) = false := by simp; omega
          have q0' : ¬ (p : Int) = 0 := by omega
          have q1' : ¬ (p : Int) = 1 := by omega
          have HD : Hid (NodesDrawn w0 w c a n cap k (.returned (.slice (some ⟨w3.heap.size, 0, none⟩) 1 1)) w6) := own_drawn (l := [⟨⟨#[97]⟩, 1⟩]) (unhide O6) (by first | omega | simp) (unhide S4) ((unhide C6).le (by omega)) (unhide G6)
          go_wp2
          go_ret
          exact unhide HD
        · have hsz4 := hsz
          have C4 := C3
          have G4 := G3
          have O4 := O3
          have S4 := hsz
          go_wp2_with fail
          refine (unhide HP 40 (by omega) (k + 12) (by omega) _ (unhide C4)).mono ?_
          rintro e w6 ⟨p, rfl, hp, hcu, hg⟩
          have O6 := hide (StrN.own_gb (unhide O4) hg hcw)
          have C6 := hide hcu
          have G6 := hide (gb_trans (unhide G4) hg)
          clear hcu hg
          have hcl := (unhide C6).lt
          by_cases p0 : p = 0
          · subst p0
            go_wp2_with fail
            refine (unhide HF (k + 13) (by omega) _ w6.heap.size ((unhide C6).alloc _) (by simp) (by omega) (fun i hi => cellsO w6 _ i hi)).mono ?_
            rintro e w7 ⟨x, rfl, hx, hcu, hg⟩
            have hs7 := odd_size x hx
            have O7 := hide (StrN.own_gb ((unhide O6).alloc _) hg hcw)
            have C7 := hide hcu
            have G7 := hide (gb_trans (gb_trans (unhide G6) (gb_below (r := some c) (bel1 w6 _) (Nat.le_refl _))) hg)
            have z7 := (unhide G7).size
            clear hcu hg hx
            generalize odd.getD x ByteArray.empty = nm at hs7 ⊢
            go_wp2_with (at_builtin; go_loud (refine wpList_append_own _ rfl _ _ 23 rfl w.heap.size 87 i0 _ 2 24 Tryz.underlying23 (unhide HI) (unhide HZ0) (unhide HZ1) (unhide HZ2) rfl (by decide) _ _ _ rfl ((unhide O7).alloc _) ⟨w7.heap.size, 0, none⟩ 1 1 (cellsOf ⟨nm, 1⟩) rfl rfl ?c1 ?c2 ?c3 ?c4 ?c5 ?_))
            case c1 => exact news_cells w7 ⟨nm, 1⟩ _
            case c2 => exact news_one ⟨nm, 1⟩
            case c3 => first | (unfold maxLen; omega) | (simp [maxLen])
            case c4 => first | omega | simp
            case c5 => simp; omega
            intro v' w8 hown' hgrow _
            have O8 : OwnN w8 w.heap.size v' ([] ++ [⟨nm, 1⟩]) := own_snoc hown' rfl
            obtain ⟨b8, cb8, hv8⟩ := own_form O8
            subst hv8
            have C8 := (((unhide C7).alloc _).gbN hgrow (fun g e => by have := own_block (unhide O7) g e; omega)).le (show k + 13 + 1 ≤ k + 50 by omega)
            have G8 := StrN.gb_own (gb_trans (unhide G7) (gb_below (r := some c) (bel1 w7 _) (Nat.le_refl _))) hgrow (fun g e => own_block (unhide O7) g e)
            have HD := hide (own_drawn O8 (by rw [List.length_append, List.length_singleton]; first | omega | simp) (snocN (unhide S4) hs7) C8 G8)
            clear hown' hgrow O8 C8 G8
            go_wp2
            go_ret
            exact unhide HD
          by_cases p1 : p = 1
          · subst p1
            have HD : Hid (NodesDrawn w0 w c a n cap k (.returned (.slice b2 0 cb2)) w6) := own_drawn (l := []) (unhide O6) (by simp) (unhide S4) ((unhide C6).le (by omega)) (unhide G6)
            go_wp2
            go_ret
            exact unhide HD
          have q0 : ((p : Int) == 0) = false := by simp; omega
          have q1 : ((p : Int) == 1) = false := by simp; omega
          have q0' : ¬ (p : Int) = 0 := by omega
          have q1' : ¬ (p : Int) = 1 := by omega
          have HD : Hid (NodesDrawn w0 w c a n cap k (.returned (.slice b2 0 cb2)) w6) := own_drawn (l := []) (unhide O6) (by first | omega | simp) (unhide S4) ((unhide C6).le (by omega)) (unhide G6)
          go_wp2
          go_ret
          exact unhide HD
      · have hl0 : 0 < l.length := by omega
        have h0' : ((l.length : Int) == 0) = false := beq_false_of_ne (by omega)
        have h0'' : ¬ (l.length : Int) = 0 := by omega
        have C4 := hide ((unhide C2').le (show k + 11 ≤ k + 12 by omega))
        have G4 := G2'
        have O4 := O2'
        have S4 := hsz
        go_wp2_with fail
        refine (unhide HP 40 (by omega) (k + 12) (by omega) _ (unhide C4)).mono ?_
        rintro e w6 ⟨p, rfl, hp, hcu, hg⟩
        have O6 := hide (StrN.own_gb (unhide O4) hg hcw)
        have C6 := hide hcu
        have G6 := hide (gb_trans (unhide G4) hg)
        clear hcu hg
        have hcl := (unhide C6).lt
        by_cases p0 : p = 0
        · subst p0
          go_wp2_with fail
          refine (unhide HF (k + 13) (by omega) _ w6.heap.size ((unhide C6).alloc _) (by simp) (by omega) (fun i hi => cellsO w6 _ i hi)).mono ?_
          rintro e w7 ⟨x, rfl, hx, hcu, hg⟩
          have hs7 := odd_size x hx
          have O7 := hide (StrN.own_gb ((unhide O6).alloc _) hg hcw)
          have C7 := hide hcu
          have G7 := hide (gb_trans (gb_trans (unhide G6) (gb_below (r := some c) (bel1 w6 _) (Nat.le_refl _))) hg)
          have z7 := (unhide G7).size
          clear hcu hg hx
          generalize odd.getD x ByteArray.empty = nm at hs7 ⊢
          go_wp2_with (at_builtin; go_loud (refine wpList_append_own _ rfl _ _ 23 rfl w.heap.size 87 i0 _ 2 24 Tryz.underlying23 (unhide HI) (unhide HZ0) (unhide HZ1) (unhide HZ2) rfl (by decide) _ _ _ rfl ((unhide O7).alloc _) ⟨w7.heap.size, 0, none⟩ 1 1 (cellsOf ⟨nm, 1⟩) rfl rfl ?c1 ?c2 ?c3 ?c4 ?c5 ?_))
          case c1 => exact news_cells w7 ⟨nm, 1⟩ _
          case c2 => exact news_one ⟨nm, 1⟩
          case c3 => first | (unfold maxLen; omega) | (simp [maxLen])
          case c4 => first | omega | simp
          case c5 => simp; omega
          intro v' w8 hown' hgrow _
          have O8 : OwnN w8 w.heap.size v' (l ++ [⟨nm, 1⟩]) := own_snoc hown' rfl
          obtain ⟨b8, cb8, hv8⟩ := own_form O8
          subst hv8
          have C8 := (((unhide C7).alloc _).gbN hgrow (fun g e => by have := own_block (unhide O7) g e; omega)).le (show k + 13 + 1 ≤ k + 50 by omega)
          have G8 := StrN.gb_own (gb_trans (unhide G7) (gb_below (r := some c) (bel1 w7 _) (Nat.le_refl _))) hgrow (fun g e => own_block (unhide O7) g e)
          have HD := hide (own_drawn O8 (by rw [List.length_append, List.length_singleton]; first | omega | simp) (snocN (unhide S4) hs7) C8 G8)
          clear hown' hgrow O8 C8 G8
          go_wp2
          go_ret
          exact unhide HD
        by_cases p1 : p = 1
        · subst p1
          obtain ⟨g, hbg⟩ := ownN_some (unhide O6) hl0
          subst hbg
          go_wp2_with fail
          refine (unhide HA (k + 13) (by omega) _ w6.heap.size ((unhide C6).alloc _) (by simp) (by omega) (fun i hi => cellsW w6 _ i hi)).mono ?_
          rintro e w7 ⟨x, rfl, hx, hcu, hg⟩
          have O7 : Hid (OwnN w7 w.heap.size (.slice (some ⟨g, 0, none⟩) l.length cb2) l) := hide (StrN.own_gb ((unhide O6).alloc _) hg hcw)
          have C7 := (hcu.le (show k + 13 + 1 ≤ k + 50 by omega))
          have G7 := gb_trans (gb_trans (unhide G6) (gb_below (r := some c) (bel1 w6 _) (Nat.le_refl _))) hg
          generalize weights.getD x 0 = wv
          obtain ⟨y1, hy1, hfy⟩ := ownN_cell (unhide O7) (by first | exact hl0 | simp)
          have HD := hide (set_drawn (k := k) wv (unhide O7) (by first | exact hl0 | simp) hcw (by first | omega | simp) (unhide S4) C7 G7)
          have zg := ((ownN_form (unhide O7)).2 _ _ rfl).2
          clear hcu hg hx C7 G7
          go_wp2
          go_ret
          exact unhide HD
        have q0 : ((p : Int) == 0) = false := by simp; omega
        have q1 : ((p : Int) == 1) = false := by simp; omega
        have q0' : ¬ (p : Int) = 0 := by omega
        have q1' : ¬ (p : Int) = 1 := by omega
        have HD : Hid (NodesDrawn w0 w c a n cap k (.returned (.slice b2 l.length cb2)) w6) := own_drawn (l := l) (unhide O6) (by first | omega | simp) (unhide S4) ((unhide C6).le (by omega)) (unhide G6)
        go_wp2
        go_ret
        exact unhide HD
end Cur
end Go.Proofs.YtghckjmpcokhcaaGreatDoor
/-
  The model's DrawSharesOf: some nodes, some keys, in bounds.
-/
namespace Go.Proofs.YtghckjmpcokhcaaGreatDoor
namespace Cur
open Go.RowKit Base Marks OwnR Nodes NodesW
set_option linter.unusedVariables false

theorem Cu.newR (w : World) (t : TypeId) (a : Option Addr) (n cap : Nat) : Cu w (w.alloc (.cells #[.slice a n cap, .int .i64 0, .int .u64 0] t)) w.heap.size a n cap 0 := by
  refine ⟨⟨0, 0, ?_, ?_, ?_, Nat.le_refl _⟩, fun o => by simp, by simp, Nat.le_refl _, (Below.refl _ _).alloc (Nat.le_refl _) _⟩
  all_goals rw [World.cell?_alloc_new]; rfl
theorem nlat_gb {w w' : World} {a : Option Addr} {l : List Nodes.D} {c : Nat} (h : Nodes.LAt w a l) (hg : w.grownBy w' (some c)) (hne : ∀ b o, a = some ⟨b, o, none⟩ → b ≠ c) : Nodes.LAt w' a l := by
  intro hn
  obtain ⟨b, off, rfl, hlt, hc⟩ := h hn
  have e := hg.block b hlt (fun e => hne b off rfl (by simpa using e))
  refine ⟨b, off, rfl, Nat.lt_of_lt_of_le hlt hg.size, fun i hi => ?_⟩
  obtain ⟨c0, c1⟩ := hc i hi
  exact ⟨(World.cell?_of_block (w := w) (a := ⟨b, off + i * 2, none⟩) e).trans c0, (World.cell?_of_block (w := w) (a := ⟨b, off + i * 2 + 1, none⟩) e).trans c1⟩
/-- What is drawn. -/
def SharesDrawn (w : World) (e : Ending) (w' : World) : Prop :=
  ∃ (l : List Nodes.D) (b : Option Addr) (cb : Nat) (ts : List ByteArray) (d : Option Addr) (cd : Nat), e = .returned (.tuple #[.slice b l.length cb, .slice d ts.length cd]) ∧ (l.length ≤ 6 ∧ l.length ≤ cb) ∧ (∀ x ∈ l, x.name.size ≤ 9) ∧ Nodes.LAt w' b l ∧ ts.length ≤ 61 ∧ (∀ x ∈ ts, x.size ≤ 100) ∧ StrsAt w' d ts ∧ Below w.heap.size w w'
end Cur
end Go.Proofs.YtghckjmpcokhcaaGreatDoor
/-
  The model's DrawSplitKeys: nodes and keys that are drawn.
-/
namespace Go.Proofs.YtghckjmpcokhcaaGreatDoor
namespace Cur
open Go.RowKit Base Marks OwnR Nodes NodesW
set_option linter.unusedVariables false

set_option maxRecDepth 10000 in
set_option maxHeartbeats 1000000 in
theorem drawSplit_any (a : Option Addr) (n cap : Nat) (z : Nat → Int) (w : World) (hz : BAt w a n z) (hn : n ≤ 1048576) :
    Calls Tryz.prog 5 #[.slice a n cap] w (SharesDrawn w) := by
  have HN := hide (fun w' h => nodes_any w w' w.heap.size a n cap 0 z hz hn (by omega) h)
  have HK := hide (fun w' h => keys_any w w' w.heap.size a n cap 50 z hz hn (by omega) h)
  clear hz
  go_enter Tryz.func5, Tryz.ntmps5
  go_wp2_with fail
  refine (unhide HN _ (Cu.newR w _ a n cap)).mono ?_
  rintro e w1 ⟨l, b, cb, rfl, h1, h2, h3, h4, hcu, hg⟩
  rw [World.size_alloc] at h4
  have C1 := hide hcu
  have L1 := hide h3
  have N1 := hide h4
  have S1 := hide h2
  clear hcu hg h2 h3 h4
  go_wp2_with fail
  refine (unhide HK _ (unhide C1)).mono ?_
  rintro e w2 ⟨ts, d, cd, rfl, q1, q2, q3, hcu, hg⟩
  have HD : Hid (SharesDrawn w (.returned (.tuple #[.slice b l.length cb, .slice d ts.length cd])) w2) := ⟨l, b, cb, ts, d, cd, rfl, h1, unhide S1, nlat_gb (unhide L1) hg (fun g o e => by have := unhide N1 g o e; omega), q1, q2, (StrN.own_strs q3).1, hcu.bel⟩
  clear hcu hg q2 q3
  go_wp2
  go_ret2
  exact unhide HD
end Cur
end Go.Proofs.YtghckjmpcokhcaaGreatDoor
