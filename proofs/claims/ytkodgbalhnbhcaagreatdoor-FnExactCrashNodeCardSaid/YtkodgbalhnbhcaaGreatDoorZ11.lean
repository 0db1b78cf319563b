/-
  The program's shelf: isOld, dropOld.
-/
import Derived.Test.YtkodgbalhnbhcaaGreatDoorZ10
import Derived.Test.YtkodgbalhnbhcaaGreatDoorZ1
namespace Go.Proofs.YtkodgbalhnbhcaaGreatDoor
namespace Shelf
open Go.RowKit Base Items Keep Own Chain Store
set_option linter.unusedVariables false

set_option maxRecDepth 10000 in
set_option maxHeartbeats 400000 in
theorem isOld_any (x : Itm) (now : Int) (w : World) :
    Calls Tryz.prog 72 #[.agg #[.string x.key, .int .i64 x.flags, .string x.data, .int .i64 x.upto, .int .i64 x.token], .int .i64 now] w fun e w' => e = .returned (.bool (oldB x now)) ∧ Below w.heap.size w w' := by
  cases h : (x.upto != 0)
  · have H : Hid (oldB x now = false) := by show oldB x now = false; rw [oldB, h]; rfl
    go_enter Tryz.func72, Tryz.ntmps72
    go_wp2
    go_ret
    exact ⟨ret_bool (unhide H).symm, bel1 w _⟩
  · have H : Hid (oldB x now = decide (x.upto ≤ now)) := by show oldB x now = _; rw [oldB, h]; rfl
    go_enter Tryz.func72, Tryz.ntmps72
    go_wp2
    go_ret
    exact ⟨ret_bool (unhide H).symm, bel1 w _⟩

theorem step_refl {w : World} {hb : Nat} {S : List Nat} {lim nx lost : Int} {its : List Itm} (h : Shelf w hb S lim nx lost its) : Step w w hb S lim nx lost its := ⟨S, h, fun b hb' => .inl hb', Keeps.refl _ _⟩
/-- Steps one behind the other, with what lies between. -/
theorem step_go {w w1 w2 : World} {hb : Nat} {S S1 : List Nat} {lim nx lost : Int} {its : List Itm} (hk : Keeps S w w1) (hS : ∀ b ∈ S1, b ∈ S ∨ w.heap.size ≤ b) (h : Step w1 w2 hb S1 lim nx lost its) : Step w w2 hb S lim nx lost its := by
  obtain ⟨S2, hs, hS2, hk2⟩ := h
  exact ⟨S2, hs, fun b hb' => (hS2 b hb').elim (hS b) (fun e => .inr (Nat.le_trans hk.size e)), hk.trans hk2 hS⟩
theorem at_mid {l1 l2 : List Itm} {x : Itm} (h : ((l1 ++ x :: l2).map Itm.key).Nodup) : atN (l1 ++ x :: l2) x.key = some l1.length := by
  rw [List.map_append, List.map_cons, List.nodup_append] at h
  refine atN_hit (by simp) (fun j hj => ?_) ?_
  · rw [List.getD_eq_getElem?_getD, List.getElem?_append_left hj, List.getElem?_eq_getElem hj]
    cases e : hasKey x.key l1[j]
    · exact e
    · exact absurd ((hasKey_iff _ _).1 e) (h.2.2 _ (List.mem_map_of_mem (List.getElem_mem hj)) _ (by simp))
  · simp [List.getD_eq_getElem?_getD]
    exact (hasKey_iff _ _).2 rfl
theorem erase_mid {α : Type} (l1 l2 : List α) (x : α) : (l1 ++ x :: l2).eraseIdx l1.length = l1 ++ l2 := by
  rw [List.eraseIdx_append_of_length_le (Nat.le_refl _)]
  simp
theorem get_mid (l1 l2 : List Itm) (x : Itm) : (l1 ++ x :: l2).getD l1.length zero = x := by simp [List.getD_eq_getElem?_getD]

/-- The items behind k rounds of dropOld. -/
def mid (its : List Itm) (now : Int) (k : Nat) : List Itm := keepB (its.take k) now ++ its.drop k
theorem mid_0 (its : List Itm) (now : Int) : mid its now 0 = its := by simp [mid, keepB]
theorem mid_all (its : List Itm) (now : Int) : mid its now its.length = keepB its now := by simp [mid]
theorem mid_cons (its : List Itm) (now : Int) {k : Nat} (hk : k < its.length) : mid its now k = keepB (its.take k) now ++ its.getD k zero :: its.drop (k + 1) := by
  unfold mid
  rw [List.drop_eq_getElem_cons hk, List.getD_eq_getElem?_getD, List.getElem?_eq_getElem hk]
  rfl
theorem mid_old (its : List Itm) (now : Int) {k : Nat} (hk : k < its.length) (h : oldB (its.getD k zero) now = true) : mid its now (k + 1) = keepB (its.take k) now ++ its.drop (k + 1) := by
  unfold mid
  rw [keep_step its now k hk, if_pos h, List.append_nil]
theorem mid_new (its : List Itm) (now : Int) {k : Nat} (hk : k < its.length) (h : oldB (its.getD k zero) now = false) : mid its now (k + 1) = mid its now k := by
  rw [mid_cons its now hk]
  unfold mid
  rw [keep_step its now k hk, if_neg (by rw [h]; simp)]
  simp
theorem mid_len (its : List Itm) (now : Int) (k : Nat) : (mid its now k).length ≤ its.length := by
  have := keep_len its now k
  unfold mid
  have h2 : (keepB (its.take k) now).length ≤ (its.take k).length := List.length_filter_le _ _
  simp at h2 ⊢
  omega

theorem row_at {w : World} {t : TypeId} {g cap : Nat} {its : List Itm} (h : Row w t 5 g its.length cap (flat its)) {k : Nat} (hk : k < its.length) : At w g (k * 5) (its.getD k zero) := by
  have hc : ∀ i, i < 5 → w.cell? ⟨g, k * 5 + i, none⟩ = some (icell its (k * 5 + i)) := fun i hi => Row.cell h (flat_get its _ (by omega))
  refine ⟨?_, ?_, ?_, ?_, ?_⟩
  · have := hc 0 (by omega); rw [Nat.add_zero] at this; rw [this, icell, show (k * 5) % 5 = 0 by omega, show (k * 5) / 5 = k by omega]; simp
  · rw [hc 1 (by omega), icell, show (k * 5 + 1) % 5 = 1 by omega, show (k * 5 + 1) / 5 = k by omega]; simp
  · rw [hc 2 (by omega), icell, show (k * 5 + 2) % 5 = 2 by omega, show (k * 5 + 2) / 5 = k by omega]; simp
  · rw [hc 3 (by omega), icell, show (k * 5 + 3) % 5 = 3 by omega, show (k * 5 + 3) / 5 = k by omega]; simp
  · rw [hc 4 (by omega), icell, show (k * 5 + 4) % 5 = 4 by omega, show (k * 5 + 4) / 5 = k by omega]; simp
theorem shelf_keys {w : World} {hb : Nat} {S : List Nat} {lim nx lost : Int} {its : List Itm} (h : Shelf w hb S lim nx lost its) : (its.map Itm.key).Nodup ∧ ∀ x ∈ its, Small x := by
  obtain ⟨gl, gf, bm, ls, free, order, cl, vf, D, hp⟩ := h
  exact ⟨hp.keys, hp.small⟩

set_option maxRecDepth 10000 in
set_option maxHeartbeats 2000000 in
theorem dropOld_shelf (w : World) (hb : Nat) (S : List Nat) (lim nx lost : Int) (its : List Itm) (now : Int) (hs : Shelf w hb S lim nx lost its) (hl : its.length ≤ 100) :
    Calls Tryz.prog 120 #[.pointer (some ⟨hb, 0, none⟩), .int .i64 now] w fun e w' => e = .returned (.int .i64 (its.length - (keepB its now).length)) ∧ Step w w' hb S lim nx lost (keepB its now) := by
  have HS := hide hs
  obtain ⟨gl, gf, bm, ls, free, order, cl, vf, D, hp⟩ := hs
  have hol : order.length = its.length := by rw [← hp.items, items_len]
  have hval := fun w' (hk : Below w.heap.size w w') => values_any w' hb _ gl gf ls free order cl vf (hp.keep (Keeps.of_below (S := []) hk (fun _ h1 _ => h1)) (by simp)).mem hp.good (by have := hp.len; omega)
  rw [hp.items, hol] at hval
  have HV := hide hval
  have hSl := hide (hp.lt)
  clear hval hp
  go_enter Tryz.func120, Tryz.ntmps120
  go_wp2_with fail
  refine (unhide HV _ (Below.refl _ _)).mono ?_
  rintro e w1 ⟨va, vc, rfl, hown, hb1⟩
  have HO := hide hown
  have HB1 := hide hb1
  have HS1 := hide ((unhide HS).below hb1)
  clear hown hb1 HV
  have hz1 : w.heap.size ≤ w1.heap.size := (unhide HB1).size
  go_wp2_with fail
  go_loopw [5, 13] (fun t i wr => ∃ (k : Nat) (z : Int), k ≤ its.length ∧ i = .int .i64 k ∧ t = .int .i64 z ∧ Hid (z = k - (keepB (its.take k) now).length) ∧ Hid (Step w1 wr hb S lim nx lost (mid its now k))) (fun _ i _ => its.length - (intOf i).toNat)
  case atStart => exact ⟨0, 0, Nat.zero_le _, rfl, rfl, hide (by simp [keepB]), hide (by rw [mid_0]; exact step_refl (unhide HS1))⟩
  case round =>
    obtain ⟨k, z, hk, rfl, rfl, hz, hst⟩ := hrel
    obtain ⟨Sk, hsk, hSk, hkk⟩ := unhide hst
    by_cases hlt : k < its.length
    · obtain ⟨g, cap, hva, hg, hrow⟩ := Row.of_owns (unhide HO) (by omega)
      simp only [Value.slice.injEq, true_and] at hva
      obtain ⟨rfl, rfl⟩ := hva
      have hgS : g ∉ S := fun hm => by have := unhide hSl g hm; omega
      have hrow2 := hrow.keep hkk hgS
      obtain ⟨c0, c1, c2, c3, c4⟩ := row_at hrow2 hlt
      have hkz : (keepB (its.take k) now).length ≤ k := keep_len its now k
      have hzb : 0 ≤ z ∧ z ≤ 100 := by have := unhide hz; omega
      have hkl := hide (keep_step its now k hlt)
      have hm1 := hide (mid_cons its now hlt)
      have hm2 := hide (mid_old its now hlt)
      have hm3 := hide (mid_new its now hlt)
      have hks := hide (shelf_keys hsk)
      have hml := mid_len its now k
      have HSK := hide hsk
      have HSS := hide hSk
      have HKK := hide hkk
      clear hrow hrow2 hsk hSk hkk hst
      generalize its.getD k zero = x at c0 c1 c2 c3 c4 hkl hm1 hm2 hm3
      cases ho : oldB x now
      · rw [ho] at hkl
        have H3 := hide (unhide hm3 ho)
        have HO' := hide ho
        clear ho hm1 hm2 hm3
        go_wp2_with fail
        refine (isOld_any x now _).mono ?_
        rintro e w2 ⟨rfl, hb2⟩
        rw [unhide HO']
        have K2 := hide ((Keeps.refl [] wr).alloc (.cells #[.string x.key, .int .i64 x.flags, .string x.data, .int .i64 x.upto, .int .i64 x.token] 85) |>.trans (Keeps.of_below (S := []) hb2 (fun _ h1 _ => h1)) (by simp))
        clear hb2
        go_wp2
        go_roundw
        case rel =>
          refine ⟨k + 1, z, by omega, by go_num, rfl, hide ?_, hide ?_⟩
          · have := unhide hz; rw [unhide hkl]; simp; omega
          · rw [unhide H3]
            exact ⟨Sk, (unhide HSK).keep (unhide K2) (by simp), unhide HSS, (unhide HKK).trans (unhide K2) (by simp)⟩
        case measure => simp [intOf]; omega
      · rw [ho] at hkl
        have H2 := hide (unhide hm2 ho)
        have HO' := hide ho
        clear ho hm2 hm3
        go_wp2_with fail
        refine (isOld_any x now _).mono ?_
        rintro e w2 ⟨rfl, hb2⟩
        rw [unhide HO']
        simp only [World.size_alloc] at hb2
        have hx2 := boxcell hb2
        have hz2 : wr.heap.size < w2.heap.size := by have := hb2.size; simp at this; omega
        have K2 := hide ((Keeps.refl [] wr).alloc (.cells #[.string x.key, .int .i64 x.flags, .string x.data, .int .i64 x.upto, .int .i64 x.token] 85) |>.trans (Keeps.of_below (S := []) hb2 (fun k h1 _ => by simpa using h1)) (by simp))
        clear hb2
        have hxm : Hid (x.key.size ≤ maxLen) := by
          have h1 := (unhide hks).2 x (by rw [unhide hm1]; simp)
          have h2 := h1.1
          show x.key.size ≤ maxLen
          unfold maxLen
          omega
        have hat : Hid (atN (mid its now k) x.key = some (keepB (its.take k) now).length) := by
          show atN (mid its now k) x.key = _
          have h1 := (unhide hks).1
          rw [unhide hm1] at h1 ⊢
          exact at_mid h1
        go_wp2_with fail
        refine (take_some _ hb Sk lim nx lost (mid its now k) x.key _ ((unhide HSK).keep (unhide K2) (by simp)) (by omega) (unhide hxm) (unhide hat)).mono ?_
        rintro e w3 ⟨rfl, hst3⟩
        have HST : Hid (Step w1 w3 hb S lim nx lost (mid its now (k + 1))) := by
          have h1 := step_go ((unhide HKK).trans (unhide K2) (by simp)) (unhide HSS) hst3
          rw [unhide hm1, erase_mid, ← unhide H2] at h1
          exact h1
        clear hst3 hx2
        go_wp2
        go_roundw
        case rel =>
          refine ⟨k + 1, z + 1, by omega, by go_num, rfl, hide ?_, HST⟩
          have := unhide hz; rw [unhide hkl]; simp; omega
        case measure => simp [intOf]; omega
    · obtain rfl : k = its.length := by omega
      have hz' : Hid (z = its.length - (keepB its now).length) := by have := unhide hz; rw [List.take_length] at this; exact this
      have hst' : Hid (Step w w1 hb S lim nx lost its) := ⟨S, unhide HS1, fun b hb' => .inl hb', Keeps.of_below (unhide HB1) (fun k h1 _ => h1)⟩
      have hfin : Hid (Step w wr hb S lim nx lost (keepB its now)) := by
        have h1 := unhide hst
        rw [mid_all] at h1
        exact step_go (Keeps.of_below (unhide HB1) (fun k h1 _ => h1)) (fun b hb' => .inl hb') h1
      clear hz hst hst' hsk hSk hkk
      go_wp2
      go_ret
      exact ⟨ret_int (unhide hz'), unhide hfin⟩
end Shelf
end Go.Proofs.YtkodgbalhnbhcaaGreatDoor
/-
  Plain data of a slice of places, and how it lies in memory. No Go function is spoken of here.
-/
namespace Go.Proofs.YtkodgbalhnbhcaaGreatDoor
namespace Pls
open Go.RowKit Base
set_option linter.unusedVariables false

structure Pl where
  name : ByteArray
  lim : Int
  nx : Int
  a : Option Addr
  cap : Nat
  its : List Items.Itm
structure Core where
  name : ByteArray
  lim : Int
  nx : Int
  its : List Items.Itm
def zeroL : Pl := ⟨ByteArray.empty, 0, 0, none, 0, []⟩
def zeroC : Core := ⟨ByteArray.empty, 0, 0, []⟩
def core (x : Pl) : Core := ⟨x.name, x.lim, x.nx, x.its⟩
def PlAt (w : World) (b o : Nat) (x : Pl) : Prop :=
  w.cell? ⟨b, o, none⟩ = some (.string x.name) ∧ w.cell? ⟨b, o + 1, none⟩ = some (.int .i64 x.lim) ∧ w.cell? ⟨b, o + 2, none⟩ = some (.int .i64 x.nx) ∧ w.cell? ⟨b, o + 3, none⟩ = some (.slice x.a x.its.length x.cap)
theorem PlAt.below {w w' : World} {b o : Nat} {x : Pl} {B : Nat} (h : PlAt w b o x) (hb : Below B w w') (hB : b < B) : PlAt w' b o x := by
  have e := fun o => hb.cell (p := ⟨b, o, none⟩) hB
  exact ⟨(e _).trans h.1, (e _).trans h.2.1, (e _).trans h.2.2.1, (e _).trans h.2.2.2⟩
def LsAt (w : World) (a : Option Addr) (L : List Pl) : Prop :=
  L ≠ [] → ∃ b off, a = some ⟨b, off, none⟩ ∧ b < w.heap.size ∧ ∀ i, i < L.length → PlAt w b (off + i * 4) (L.getD i zeroL) ∧ Items.ItemsAt w (L.getD i zeroL).a (L.getD i zeroL).its
theorem LsAt.below {w w' : World} {a : Option Addr} {L : List Pl} {B : Nat} (h : LsAt w a L) (hb : Below B w w') (hB : w.heap.size ≤ B) : LsAt w' a L := by
  intro hne
  obtain ⟨b, off, ha, hlt, hc⟩ := h hne
  exact ⟨b, off, ha, Nat.lt_of_lt_of_le hlt hb.size, fun i hi => ⟨(hc i hi).1.below hb (Nat.lt_of_lt_of_le hlt hB), (hc i hi).2.below hb hB⟩⟩
/-- What can be handed in. -/
def Fits (x : Pl) : Prop := x.name.size ≤ maxLen ∧ x.its.length ≤ x.cap ∧ x.its.length ≤ maxLen ∧ ∀ y ∈ x.its, Items.Fits y
/-- The block that holds a place's items. -/
def blk (x : Pl) : Nat := match x.a with | some p => p.block | none => 0
/-- A place that a call has laid itself: its items have a block of their own. -/
def Str (w : World) (x : Pl) : Prop := x.a = some ⟨blk x, 0, none⟩ ∧ w.rowIs (blk x) 85 (x.its.length * 5) (Items.icell x.its) ∧ x.cap = x.its.length
theorem Str.lt {w : World} {x : Pl} (h : Str w x) : blk x < w.heap.size := h.2.1.lt
theorem Str.block {w w' : World} {x : Pl} (h : Str w x) (e : w'.heap[blk x]? = w.heap[blk x]?) : Str w' x := ⟨h.1, h.2.1.of_block e, h.2.2⟩
theorem Str.below {w w' : World} {x : Pl} {B : Nat} (h : Str w x) (hb : Below B w w') (hB : w.heap.size ≤ B) : Str w' x := h.block (hb.block _ (Nat.lt_of_lt_of_le h.lt hB))
theorem Str.set {w : World} {x : Pl} {p : Addr} (h : Str w x) (hne : blk x ≠ p.block) (v : Value) : Str (w.setCell p v) x := h.block (Below.heap_setCell _ _ _ _ hne)
theorem Str.items {w : World} {x : Pl} (h : Str w x) : Items.ItemsAt w x.a x.its := by rw [h.1]; exact Items.ItemsAt.row h.2.1

/-- Cell j of a row of places. -/
def lcell (L : List Pl) (j : Nat) : Value :=
  if j % 4 = 0 then .string (L.getD (j / 4) zeroL).name else if j % 4 = 1 then .int .i64 (L.getD (j / 4) zeroL).lim else if j % 4 = 2 then .int .i64 (L.getD (j / 4) zeroL).nx else .slice (L.getD (j / 4) zeroL).a (L.getD (j / 4) zeroL).its.length (L.getD (j / 4) zeroL).cap
theorem getD_snoc (L : List Pl) (x : Pl) (i : Nat) : (L ++ [x]).getD i zeroL = if i = L.length then x else L.getD i zeroL := by
  simp only [List.getD_eq_getElem?_getD]
  rcases Nat.lt_trichotomy i L.length with h | h | h
  · rw [if_neg (by omega), List.getElem?_append_left h]
  · rw [if_pos h, h]; simp
  · rw [if_neg (by omega), List.getElem?_append_right (by omega), List.getElem?_eq_none (by simp; omega), List.getElem?_eq_none (by omega)]
theorem lcell_snoc (L : List Pl) (x : Pl) (k j : Nat) (hk : L.length = k) : (if j = k * 4 + 3 then (.slice x.a x.its.length x.cap : Value) else if j = k * 4 + 2 then (.int .i64 x.nx : Value) else if j = k * 4 + 1 then (.int .i64 x.lim : Value) else if j = k * 4 then (.string x.name : Value) else lcell L j) = lcell (L ++ [x]) j := by
  subst hk
  unfold lcell
  rw [getD_snoc]
  have hm : j % 4 < 4 := Nat.mod_lt _ (by decide)
  have hd := Nat.div_add_mod j 4
  by_cases h3 : j = L.length * 4 + 3
  · rw [if_pos h3, if_neg (by omega), if_neg (by omega), if_neg (by omega), if_pos (by omega)]
  rw [if_neg h3]
  by_cases h2 : j = L.length * 4 + 2
  · rw [if_pos h2, if_neg (by omega), if_neg (by omega), if_pos (by omega), if_pos (by omega)]
  rw [if_neg h2]
  by_cases h1 : j = L.length * 4 + 1
  · rw [if_pos h1, if_neg (by omega), if_pos (by omega), if_pos (by omega)]
  rw [if_neg h1]
  by_cases h0 : j = L.length * 4
  · rw [if_pos h0, if_pos (by omega), if_pos (by omega)]
  rw [if_neg h0, if_neg (show ¬ j / 4 = L.length by omega)]
theorem lcell_at {w : World} {b : Nat} {t : TypeId} {n : Nat} {L : List Pl} (h : w.rowIs b t (n * 4) (lcell L)) (i : Nat) (hi : i < n) : PlAt w b (0 + i * 4) (L.getD i zeroL) := by
  rw [Nat.zero_add]
  refine ⟨?_, ?_, ?_, ?_⟩
  · rw [h.cell (by omega), lcell, show (i * 4) % 4 = 0 by omega, show (i * 4) / 4 = i by omega]; simp
  · rw [h.cell (by omega), lcell, show (i * 4 + 1) % 4 = 1 by omega, show (i * 4 + 1) / 4 = i by omega]; simp
  · rw [h.cell (by omega), lcell, show (i * 4 + 2) % 4 = 2 by omega, show (i * 4 + 2) / 4 = i by omega]; simp
  · rw [h.cell (by omega), lcell, show (i * 4 + 3) % 4 = 3 by omega, show (i * 4 + 3) / 4 = i by omega]; simp

/-- A row of places that a call has laid itself, every block apart. -/
structure RAt (w : World) (b : Nat) (L : List Pl) : Prop where
  row : w.rowIs b 59 (L.length * 4) (lcell L)
  str : ∀ i, i < L.length → Str w (L.getD i zeroL)
  far : ∀ i, i < L.length → b < blk (L.getD i zeroL)
  up : ∀ i j, i < j → j < L.length → blk (L.getD i zeroL) < blk (L.getD j zeroL)
theorem RAt.below {w w' : World} {b : Nat} {L : List Pl} {B : Nat} (h : RAt w b L) (hb : Below B w w') (hB : w.heap.size ≤ B) : RAt w' b L :=
  ⟨h.row.of_block (hb.block _ (Nat.lt_of_lt_of_le h.row.lt hB)), fun i hi => (h.str i hi).below hb hB, h.far, h.up⟩
theorem RAt.setOther {w : World} {b : Nat} {L : List Pl} {p : Addr} (h : RAt w b L) (hp : p.block < b) (v : Value) : RAt (w.setCell p v) b L :=
  ⟨h.row.setOther (by omega) v, fun i hi => (h.str i hi).set (by have := h.far i hi; omega) v, h.far, h.up⟩
theorem RAt.lt {w : World} {b : Nat} {L : List Pl} (h : RAt w b L) : b < w.heap.size := h.row.lt
theorem RAt.ls {w : World} {b : Nat} {L : List Pl} (h : RAt w b L) : LsAt w (some ⟨b, 0, none⟩) L :=
  fun _ => ⟨b, 0, rfl, h.row.lt, fun i hi => ⟨lcell_at h.row i hi, (h.str i hi).items⟩⟩

/-- How much room is left. -/
def szPl (x : Pl) (left : Int) : Int := if left - x.name.size < 0 then -1 else Items.szIs x.its (left - x.name.size)
def szGo : List Pl → Int → Int
  | [], left => left
  | x :: r, left => if szPl x left < 0 then -1 else szGo r (szPl x left)
def szLs (L : List Pl) (left : Int) : Int := if left - L.length < 0 then -1 else szGo L (left - L.length)
theorem szPl_bd (x : Pl) (l : Int) (h : 0 ≤ l) : -1 ≤ szPl x l ∧ szPl x l ≤ l := by
  unfold szPl
  split
  · omega
  · have := Items.szIs_bd x.its (l - x.name.size) (by omega)
    omega
theorem szPl_len {x : Pl} {l : Int} (h : ¬ szPl x l < 0) : (x.name.size : Int) ≤ l ∧ (x.its.length : Int) ≤ l := by
  unfold szPl at h
  split at h
  · omega
  · have := Items.szIs_len h
    omega
theorem szGo_drop (L : List Pl) (k : Nat) (h : k < L.length) (l : Int) : szGo (L.drop k) l = if szPl (L.getD k zeroL) l < 0 then -1 else szGo (L.drop (k + 1)) (szPl (L.getD k zeroL) l) := by
  rw [List.drop_eq_getElem_cons h, szGo]
  simp [h]
theorem szGo_bd (L : List Pl) (l : Int) (h : 0 ≤ l) : -1 ≤ szGo L l ∧ szGo L l ≤ l := by
  induction L generalizing l with
  | nil => simp [szGo]; omega
  | cons x r ih =>
    have := szPl_bd x l h
    rw [szGo]
    split
    · omega
    · have := ih (szPl x l) (by omega); omega
theorem szLs_bd (L : List Pl) (left : Int) (h0 : 0 ≤ left) : -1 ≤ szLs L left ∧ szLs L left ≤ left := by
  unfold szLs
  split
  · omega
  · have := szGo_bd L (left - L.length) (by omega); omega
theorem szGo_len : ∀ (L : List Pl) (left : Int), 0 ≤ left → ¬ szGo L left < 0 → ∀ x ∈ L, (x.name.size : Int) ≤ left ∧ (x.its.length : Int) ≤ left
  | [], _, _, _ => by simp
  | x :: r, left, h0, h => by
    have hbd := szPl_bd x left h0
    unfold szGo at h
    split at h
    · omega
    · rename_i hn
      intro y hy
      rcases List.mem_cons.1 hy with rfl | hy
      · exact szPl_len hn
      · have := szGo_len r _ (by omega) h y hy
        omega
theorem szLs_len {L : List Pl} {left : Int} (h : ¬ szLs L left < 0) : (L.length : Int) ≤ left ∧ ∀ x ∈ L, (x.name.size : Int) ≤ left ∧ (x.its.length : Int) ≤ left := by
  unfold szLs at h
  split at h
  · omega
  · refine ⟨by omega, fun x hx => ?_⟩
    have := szGo_len L _ (by omega) h x hx
    omega
theorem map_at {L M : List Pl} (h : L.map core = M.map core) (i : Nat) : core (L.getD i zeroL) = core (M.getD i zeroL) := by
  have e := congrArg (fun l => l[i]?) h
  simp only [List.getElem?_map] at e
  simp only [List.getD_eq_getElem?_getD]
  cases h1 : L[i]? <;> cases h2 : M[i]? <;> rw [h1, h2] at e <;> simp at e <;> simp [e]
theorem map_len {L M : List Pl} (h : L.map core = M.map core) : L.length = M.length := by
  have := congrArg List.length h
  simpa using this
theorem getD_mem {L : List Pl} {k : Nat} (h : k < L.length) : L.getD k zeroL ∈ L := by
  rw [List.getD_eq_getElem?_getD, List.getElem?_eq_getElem h]; simp
end Pls
end Go.Proofs.YtkodgbalhnbhcaaGreatDoor
/-
  Plain data of the struct Node, and how a slice of them lies in memory (written by a program of mine). No Go function is spoken of here.
-/
namespace Go.Proofs.YtkodgbalhnbhcaaGreatDoor
namespace Nodes
open Go.RowKit Base
set_option linter.unusedVariables false

structure D where
  name : ByteArray
  weight : Int
def zero : D := ⟨ByteArray.empty, 0⟩
def At (w : World) (b o : Nat) (x : D) : Prop :=
  w.cell? ⟨b, o, none⟩ = some (.string x.name) ∧ w.cell? ⟨b, o + 1, none⟩ = some (.int .i64 x.weight)
theorem At.below {w w' : World} {b o : Nat} {x : D} {B : Nat} (h : At w b o x) (hb : Below B w w') (hB : b < B) : At w' b o x := by
  obtain ⟨h0, h1⟩ := h
  refine ⟨?_, ?_⟩
  · rw [hb.cell (p := ⟨b, o, none⟩) hB]; exact h0
  · rw [hb.cell (p := ⟨b, o + 1, none⟩) hB]; exact h1
def LAt (w : World) (a : Option Addr) (l : List D) : Prop :=
  l ≠ [] → ∃ b off, a = some ⟨b, off, none⟩ ∧ b < w.heap.size ∧ ∀ i, i < l.length → At w b (off + i * 2) (l.getD i zero)
theorem LAt.below {w w' : World} {a : Option Addr} {l : List D} {B : Nat} (h : LAt w a l) (hb : Below B w w') (hB : w.heap.size ≤ B) : LAt w' a l := by
  intro hne
  obtain ⟨b, off, ha, hlt, hc⟩ := h hne
  exact ⟨b, off, ha, Nat.lt_of_lt_of_le hlt hb.size, fun i hi => (hc i hi).below hb (Nat.lt_of_lt_of_le hlt hB)⟩
def icell (l : List D) (j : Nat) : Value := if j % 2 = 0 then .string (l.getD (j / 2) zero).name else .int .i64 (l.getD (j / 2) zero).weight
def half (l : List D) (k j : Nat) : Value := if j < k * 2 then icell l j else icell [] j
theorem half_step (l : List D) (k : Nat) (j : Nat) : (if j = k * 2 + 1 then (.int .i64 (l.getD k zero).weight : Value) else if j = k * 2 then (.string (l.getD k zero).name : Value) else half l k j) = half l (k + 1) j := by
  unfold half
  by_cases h1 : j = k * 2 + 1
  · subst h1
    rw [if_pos rfl, if_pos (by omega), icell, show (k * 2 + 1) % 2 = 1 by omega, show (k * 2 + 1) / 2 = k by omega]
    simp
  rw [if_neg h1]
  by_cases h0 : j = k * 2
  · subst h0
    rw [if_pos rfl, if_pos (by omega), icell, show (k * 2) % 2 = 0 by omega, show (k * 2) / 2 = k by omega]
    simp
  rw [if_neg h0]
  by_cases h : j < k * 2
  · rw [if_pos h, if_pos (by omega)]
  · rw [if_neg h, if_neg (by omega)]
theorem at_row {w : World} {b : Nat} {t : TypeId} {l : List D} (h : w.rowIs b t (l.length * 2) (icell l)) (i : Nat) (hi : i < l.length) : At w b (0 + i * 2) (l.getD i zero) := by
  rw [Nat.zero_add]
  refine ⟨?_, ?_⟩
  · rw [h.cell (by omega), icell, show (i * 2) % 2 = 0 by omega, show (i * 2) / 2 = i by omega]; simp
  · rw [h.cell (by omega), icell, show (i * 2 + 1) % 2 = 1 by omega, show (i * 2 + 1) / 2 = i by omega]; simp
theorem LAt.row {w : World} {b : Nat} {t : TypeId} {l : List D} (h : w.rowIs b t (l.length * 2) (icell l)) : LAt w (some ⟨b, 0, none⟩) l := fun _ => ⟨b, 0, rfl, h.lt, at_row h⟩
theorem made_zero (i : Nat) : (#[.string ByteArray.empty, .int .i64 0] : Array Value)[i % 2]! = icell [] i := by
  have h : i % 2 < 2 := Nat.mod_lt _ (by omega)
  unfold icell
  generalize i % 2 = m at h
  obtain rfl | rfl : m = 0 ∨ m = 1 := by omega
  all_goals simp [zero]
def szI (x : D) (left : Int) : Int := if left - x.name.size < 0 then -1 else left - x.name.size
def szGo : List D → Int → Int
  | [], l => l
  | x :: r, l => if szI x l < 0 then -1 else szGo r (szI x l)
def szL (l : List D) (left : Int) : Int := if left - l.length < 0 then -1 else szGo l (left - l.length)
theorem szI_bd (x : D) (l : Int) (h : 0 ≤ l) : -1 ≤ szI x l ∧ szI x l ≤ l := by
  unfold szI
  repeat' split
  all_goals omega
theorem szGo_drop (its : List D) (k : Nat) (h : k < its.length) (l : Int) : szGo (its.drop k) l = if szI (its.getD k zero) l < 0 then -1 else szGo (its.drop (k + 1)) (szI (its.getD k zero) l) := by
  rw [List.drop_eq_getElem_cons h, szGo]
  simp [h]
theorem szGo_bd (its : List D) (l : Int) (h : 0 ≤ l) : -1 ≤ szGo its l ∧ szGo its l ≤ l := by
  induction its generalizing l with
  | nil => simp [szGo]; omega
  | cons x r ih =>
    have := szI_bd x l h
    rw [szGo]
    split
    · omega
    · have := ih (szI x l) (by omega); omega
theorem szL_bd (l : List D) (left : Int) (h0 : 0 ≤ left) : -1 ≤ szL l left ∧ szL l left ≤ left := by
  unfold szL
  split
  · omega
  · have := szGo_bd l (left - l.length) (by omega); omega
theorem szL_len {l : List D} {left : Int} (h : ¬ szL l left < 0) : (l.length : Int) ≤ left := by
  unfold szL at h
  split at h <;> omega
def Fits (x : D) : Prop := x.name.size ≤ maxLen
theorem fits_getD {l : List D} (h : ∀ x ∈ l, Fits x) (k : Nat) (hk : k < l.length) : Fits (l.getD k zero) := by
  rw [List.getD_eq_getElem?_getD, List.getElem?_eq_getElem hk]
  exact h _ (List.getElem_mem _)
end Nodes
end Go.Proofs.YtkodgbalhnbhcaaGreatDoor
