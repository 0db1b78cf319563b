/-
  Rows that are written in place, and the marks that the law files write. No Go function is spoken of here.
-/
import Derived.Test.YtkodgbalhnbhcaaGreatDoorZ2
import Derived.Test.YtkodgbalhnbhcaaGreatDoorZ1
import Derived.Test.YtkodgbalhnbhcaaGreatDoorRows
import Derived.Deep.RegionWith
namespace Go.Proofs.YtkodgbalhnbhcaaGreatDoor
namespace Marks
open Go.RowKit Base NumText

/-- A block whose first n cells are told, none of it frozen; it may have more. -/
def RowAt (w : World) (b : Nat) (t : TypeId) (n : Nat) (f : Nat → Value) : Prop :=
  ∃ c : Array Value, w.heap[b]? = some (.cells c t (0, 0)) ∧ n ≤ c.size ∧ ∀ i, i < n → c[i]? = some (f i)
namespace RowAt
variable {w : World} {b : Nat} {t : TypeId} {n : Nat} {f g : Nat → Value}
theorem cell (h : RowAt w b t n f) {i : Nat} (hi : i < n) : w.cell? ⟨b, i, none⟩ = some (f i) := by
  obtain ⟨c, hb, _, hc⟩ := h
  simp [World.cell?, hb, hc i hi]
theorem frozen (h : RowAt w b t n f) (i : Nat) : w.frozen? ⟨b, i, none⟩ = false := by
  obtain ⟨c, hb, _, _⟩ := h
  simp [World.frozen?, hb]
theorem lt (h : RowAt w b t n f) : b < w.heap.size := by
  obtain ⟨c, hb, _, _⟩ := h
  obtain ⟨hlt, _⟩ := Array.getElem?_eq_some_iff.1 hb
  exact hlt
theorem congr (h : RowAt w b t n f) (e : ∀ i, i < n → f i = g i) : RowAt w b t n g := by
  obtain ⟨c, hb, hn, hc⟩ := h
  exact ⟨c, hb, hn, fun i hi => by rw [hc i hi, e i hi]⟩
theorem of_block {w' : World} (h : RowAt w b t n f) (e : w'.heap[b]? = w.heap[b]?) : RowAt w' b t n f := by
  obtain ⟨c, hb, hn, hc⟩ := h
  exact ⟨c, e.trans hb, hn, hc⟩
theorem set (h : RowAt w b t n f) (i : Nat) (v : Value) : RowAt (w.setCell ⟨b, i, none⟩ v) b t n (fun j => if j = i then v else f j) := by
  obtain ⟨c, hb, hn, hc⟩ := h
  refine ⟨c.setIfInBounds i v, ?_, by simpa using hn, fun j hj => ?_⟩
  · simp [World.setCell, Array.getElem?_modify, hb]
  · rw [Array.getElem?_setIfInBounds]
    by_cases e : j = i
    · subst e
      simp
      omega
    · rw [if_neg (fun h => e h.symm)]
      show c[j]? = some (if j = i then v else f j)
      rw [if_neg e]
      exact hc j hj
theorem of_row (h : w.rowIs b t n f) : RowAt w b t n f := by
  obtain ⟨c, hb, hn, hc⟩ := h
  exact ⟨c, hb, by omega, hc⟩
theorem below {w' : World} {B : Nat} (h : RowAt w b t n f) (hb : Below B w w') (hB : b < B) : RowAt w' b t n f := h.of_block (hb.block b hB)
end RowAt

/-- Only block g, of those that were there, may have turned. -/
theorem gb_refl (w : World) (r : Option Nat) : w.grownBy w r := ⟨rfl, rfl, rfl, Nat.le_refl _, fun _ _ _ => rfl⟩
theorem gb_trans {a b c : World} {r : Option Nat} (h : a.grownBy b r) (k : b.grownBy c r) : a.grownBy c r :=
  ⟨k.os.trans h.os, k.tape.trans h.tape, k.output.trans h.output, Nat.le_trans h.size k.size, fun i hi hr => (k.block i (Nat.lt_of_lt_of_le hi h.size) hr).trans (h.block i hi hr)⟩
theorem gb_below {w w' : World} {r : Option Nat} {B : Nat} (h : Below B w w') (hB : w.heap.size ≤ B) : w.grownBy w' r := ⟨h.os, h.tape, h.output, h.size, fun k hk _ => h.block k (by omega)⟩
theorem gb_set {w w' : World} {g : Nat} (h : w.grownBy w' (some g)) (o : Nat) (v : Value) : w.grownBy (w'.setCell ⟨g, o, none⟩ v) (some g) :=
  gb_trans h ⟨rfl, rfl, rfl, by simp [World.setCell], fun k _ hk => Below.heap_setCell _ _ _ _ (fun e => hk (by simp at e; rw [e]))⟩
theorem gb_drew {w w' : World} {r : Option Nat} (h : w.grownBy w' r) : w.grownBy w'.drew r := ⟨h.os, h.tape, h.output, h.size, h.block⟩
theorem below_gb {B g : Nat} {a w w' : World} (h : Below B a w) (hg : w.grownBy w' (some g)) (hB : B ≤ w.heap.size) (hr : B ≤ g) : Below B a w' :=
  h.grown hg hB (fun k e => by simp at e; omega)
theorem RowAt.gb {w w' : World} {b g : Nat} {t : TypeId} {n : Nat} {f : Nat → Value} (h : RowAt w b t n f) (hg : w.grownBy w' (some g)) (hne : b ≠ g) : RowAt w' b t n f :=
  h.of_block (hg.block b h.lt (fun e => hne (by simpa using e)))

/-- The text of a mark. -/
def mtxt (n : Nat) : ByteArray := ⟨#[109]⟩ ++ txt n
theorem mtxt_size (n : Nat) (h : n < 18446744073709551616) : (mtxt n).size ≤ 21 := by
  have h1 := Lib.nDigits_le20 n h
  have e : (txt n).size = Lib.nDigits n := by
    show (Lib.decDigits n).toArray.size = _
    rw [Lib.decDigits_eq]; simp
  unfold mtxt
  rw [ByteArray.size_append, e]
  show 1 + _ ≤ 21
  omega
end Marks
end Go.Proofs.YtkodgbalhnbhcaaGreatDoor
/-
  A slice of items that the call itself has made by append: its cells one behind the other. No Go function is spoken of here.
-/
namespace Go.Proofs.YtkodgbalhnbhcaaGreatDoor
namespace Own
open Go.RowKit Base Items Marks

def cellsOf (x : Itm) : List Value := [.string x.key, .int .i64 x.flags, .string x.data, .int .i64 x.upto, .int .i64 x.token]
def flat (its : List Itm) : List Value := its.flatMap cellsOf
theorem flat_append (a b : List Itm) : flat (a ++ b) = flat a ++ flat b := by simp [flat]
theorem flat_one (x : Itm) : flat [x] = cellsOf x := by simp [flat]
theorem flat_length (its : List Itm) : (flat its).length = its.length * 5 := by
  induction its with
  | nil => rfl
  | cons x r ih =>
    have e : flat (x :: r) = cellsOf x ++ flat r := by simp [flat]
    rw [e, List.length_append, ih]
    simp [cellsOf]; omega
theorem icell_cons (x : Itm) (r : List Itm) (j : Nat) : icell (x :: r) (j + 5) = icell r j := by
  unfold icell
  rw [show (j + 5) % 5 = j % 5 by omega, show (j + 5) / 5 = j / 5 + 1 by omega]
  simp
theorem flat_get (its : List Itm) (j : Nat) (hj : j < its.length * 5) : (flat its)[j]? = some (icell its j) := by
  induction its generalizing j with
  | nil => simp at hj
  | cons x r ih =>
    have e : flat (x :: r) = cellsOf x ++ flat r := by simp [flat]
    rw [e]
    by_cases h : j < 5
    · rw [List.getElem?_append_left (by simp [cellsOf]; omega)]
      obtain rfl | rfl | rfl | rfl | rfl : j = 0 ∨ j = 1 ∨ j = 2 ∨ j = 3 ∨ j = 4 := by omega
      all_goals simp [cellsOf, icell]
    · obtain ⟨i, rfl⟩ : ∃ i, j = i + 5 := ⟨j - 5, by omega⟩
      rw [List.getElem?_append_right (by simp [cellsOf]), icell_cons]
      have el : (cellsOf x).length = 5 := rfl
      rw [el, Nat.add_sub_cancel]
      exact ih i (by simp at hj; omega)

theorem own_below {w w' : World} {base : Nat} {e : TypeId} {size : Nat} {v : Value} {n : Nat} {xs : List Value} {B : Nat} (h : w.ownsRow base e size v n xs) (hb : Below B w w') (hB : w.heap.size ≤ B) : w'.ownsRow base e size v n xs := by
  refine ⟨h.1, h.2.elim Or.inl ?_⟩
  rintro ⟨g, cap, cur, hv, hg, hh, r⟩
  have hlt : g < w.heap.size := (Array.getElem?_eq_some_iff.1 hh).1
  exact Or.inr ⟨g, cap, cur, hv, hg, by rw [hb.block g (by omega)]; exact hh, r⟩
theorem own_block {w : World} {base : Nat} {e : TypeId} {size : Nat} {v : Value} {n : Nat} {xs : List Value} (h : w.ownsRow base e size v n xs) : ∀ k, v.ownBlock = some k → base ≤ k := by
  intro k hk
  rcases h.2 with ⟨rfl, _⟩ | ⟨g, cap, cur, rfl, hg, _⟩
  · simp [Value.ownBlock] at hk
  · simp [Value.ownBlock] at hk; omega
theorem own_form {w : World} {base : Nat} {e : TypeId} {size : Nat} {v : Value} {n : Nat} {xs : List Value} (h : w.ownsRow base e size v n xs) : ∃ a cap, v = .slice a n cap := by
  rcases h.2 with ⟨rfl, rfl⟩ | ⟨g, cap, cur, rfl, _⟩
  · exact ⟨none, 0, rfl⟩
  · exact ⟨_, _, rfl⟩
theorem own_at {w : World} {base : Nat} {a : Option Addr} {cap : Nat} {its : List Itm} (h : w.ownsRow base 85 5 (.slice a its.length cap) its.length (flat its)) : ItemsAt w a its := by
  intro hne
  rcases h.2 with ⟨_, h0⟩ | ⟨g, cap', cur, hv, hg, hh, hn, _, hsz, ht⟩
  · exact absurd (List.length_eq_zero_iff.1 h0) hne
  · simp only [Value.slice.injEq] at hv
    have hrow : RowAt w g 85 (its.length * 5) (icell its) := ⟨cur, hh, by rw [hsz]; omega, fun i hi => by
      rw [← flat_get its i hi, ← ht, List.getElem?_take_of_lt hi]
      simp⟩
    refine ⟨g, 0, hv.1, hrow.lt, fun i hi => ?_⟩
    rw [Nat.zero_add]
    refine ⟨?_, ?_, ?_, ?_, ?_⟩
    · rw [hrow.cell (by omega), icell, show (i * 5) % 5 = 0 by omega, show (i * 5) / 5 = i by omega]; simp
    · rw [hrow.cell (by omega), icell, show (i * 5 + 1) % 5 = 1 by omega, show (i * 5 + 1) / 5 = i by omega]; simp
    · rw [hrow.cell (by omega), icell, show (i * 5 + 2) % 5 = 2 by omega, show (i * 5 + 2) / 5 = i by omega]; simp
    · rw [hrow.cell (by omega), icell, show (i * 5 + 3) % 5 = 3 by omega, show (i * 5 + 3) / 5 = i by omega]; simp
    · rw [hrow.cell (by omega), icell, show (i * 5 + 4) % 5 = 4 by omega, show (i * 5 + 4) / 5 = i by omega]; simp
theorem own_le {w : World} {base base' : Nat} {e : TypeId} {size : Nat} {v : Value} {n : Nat} {xs : List Value} (h : w.ownsRow base e size v n xs) (hb : base' ≤ base) : w.ownsRow base' e size v n xs :=
  ⟨h.1, h.2.elim Or.inl (fun ⟨g, cap, cur, hv, hg, r⟩ => Or.inr ⟨g, cap, cur, hv, Nat.le_trans hb hg, r⟩)⟩
theorem news_cells (w : World) (x : Itm) (t : TypeId) (j : Nat) (u : Value) (hj : (cellsOf x)[j]? = some u) :
    (w.alloc (.cells #[.string x.key, .int .i64 x.flags, .string x.data, .int .i64 x.upto, .int .i64 x.token] t)).cell? ((⟨w.heap.size, 0, none⟩ : Addr).add j) = some u := by
  rw [Go.WideShapes.add_plain, Nat.zero_add, World.cell?_alloc_new]
  show (cellsOf x).toArray[j]? = some u
  simpa using hj
theorem news_one (x : Itm) (u : Value) (hu : u ∈ cellsOf x) : u.oneCell' = true := by
  simp only [cellsOf, List.mem_cons, List.not_mem_nil, or_false] at hu
  rcases hu with rfl | rfl | rfl | rfl | rfl <;> rfl
theorem own_snoc {w : World} {base : Nat} {t : TypeId} {v : Value} {kept kept' : List Itm} {x : Itm} (h : w.ownsRow base t 5 v (kept.length + 1) (flat kept ++ cellsOf x)) (e : kept' = kept ++ [x]) : w.ownsRow base t 5 v kept'.length (flat kept') := by
  rw [e, flat_append, flat_one, List.length_append]
  exact h
end Own
end Go.Proofs.YtkodgbalhnbhcaaGreatDoor
/-
  The contract of the law files' markText, for every number from 1 on.
-/
namespace Go.Proofs.YtkodgbalhnbhcaaGreatDoor
namespace Marks
open Go.RowKit Base NumText
set_option linter.unusedVariables false

theorem dig_step (K k : Nat) (out : List UInt8) (hk : 0 < k) (h : Lib.decDigits K = Lib.decDigits k ++ out) :
    (10 ≤ k → Lib.decDigits K = Lib.decDigits (k / 10) ++ (UInt8.ofNat (48 + k % 10) :: out)) ∧ (k < 10 → Lib.decDigits K = UInt8.ofNat (48 + k % 10) :: out) := by
  constructor
  · intro h10
    rw [h, Lib.decDigits, dif_neg (by omega)]
    simp
  · intro h10
    rw [h, Lib.decDigits, dif_pos h10, Nat.mod_eq_of_lt h10]
    simp

theorem len_eq (b : ByteArray) : b.size = b.data.toList.length := by simp
theorem out_step (K : Nat) (hK : K < 18446744073709551616) (k : Int) (out : ByteArray) (hk : 0 < k) (h : (0 < k → Lib.decDigits K = Lib.decDigits k.toNat ++ out.data.toList) ∧ (k = 0 → Lib.decDigits K = out.data.toList)) :
    ((⟨#[UInt8.ofNat (48 + k % 10).toNat]⟩ : ByteArray) ++ out).size ≤ 20 ∧
    ((0 < k / 10 → Lib.decDigits K = Lib.decDigits (k / 10).toNat ++ ((⟨#[UInt8.ofNat (48 + k % 10).toNat]⟩ : ByteArray) ++ out).data.toList) ∧ (k / 10 = 0 → Lib.decDigits K = ((⟨#[UInt8.ofNat (48 + k % 10).toNat]⟩ : ByteArray) ++ out).data.toList)) := by
  have h2 := dig_step K k.toNat out.data.toList (by omega) (h.1 hk)
  have ec : UInt8.ofNat (48 + k % 10).toNat = UInt8.ofNat (48 + k.toNat % 10) := by rw [show (48 + k % 10).toNat = 48 + k.toNat % 10 by omega]
  have eo : ((⟨#[UInt8.ofNat (48 + k % 10).toNat]⟩ : ByteArray) ++ out).data.toList = UInt8.ofNat (48 + k.toNat % 10) :: out.data.toList := by rw [ec]; simp
  have hlen : (Lib.decDigits K).length ≤ 20 := by
    have := Lib.nDigits_le20 K hK
    rw [Lib.decDigits_eq]; simpa using this
  have esz := len_eq ((⟨#[UInt8.ofNat (48 + k % 10).toNat]⟩ : ByteArray) ++ out)
  refine ⟨?_, ?_, ?_⟩
  · rw [esz, eo]
    by_cases h10 : k.toNat < 10
    · rw [h2.2 h10] at hlen; exact hlen
    · rw [h2.1 (by omega)] at hlen
      simp only [List.length_append] at hlen
      omega
  · intro hp
    rw [eo, show (k / 10).toNat = k.toNat / 10 by omega]
    exact h2.1 (by omega)
  · intro hz
    rw [eo]
    exact h2.2 (by omega)

set_option maxRecDepth 10000 in
set_option maxHeartbeats 1000000 in
theorem text_any (K : Int) (w : World) (h0 : 0 < K) (h1 : K < 9223372036854775808) :
    Calls Tryz.prog 53 #[.int .i64 K] w fun e w' => e = .returned (.string (mtxt K.toNat)) ∧ Below w.heap.size w w' := by
  have hK : ¬ K ≤ 0 := by omega
  go_enter Tryz.func53, Tryz.ntmps53
  go_wp2
  go_loopw [0, 3] (fun kv ov wr => ∃ (k : Int) (out : ByteArray), 0 ≤ k ∧ k < 9223372036854775808 ∧ out.size ≤ 20 ∧ kv = .int .i64 k ∧ ov = .string out ∧
      Hid ((0 < k → Lib.decDigits K.toNat = Lib.decDigits k.toNat ++ out.data.toList) ∧ (k = 0 → Lib.decDigits K.toNat = out.data.toList)) ∧ Hid (Below w.heap.size w wr)) (fun kv _ _ => (intOf kv).toNat)
  case atStart => exact ⟨K, ⟨#[]⟩, by omega, h1, by decide, rfl, rfl, hide ⟨fun _ => by simp, fun h => by omega⟩, hide (Below.refl _ _)⟩
  case round =>
    obtain ⟨k, out, hk0, hk1, hos, rfl, rfl, hd, hbel⟩ := hrel
    by_cases hp : 0 < k
    · have hcv := conv1 (P := Tryz.prog) 123 9 5 (48 + k % 10) (by omega) (by omega) Tryz.underlying123 Tryz.underlying5 Tryz.underlying9
      have hzb := (unhide hbel).size
      have HO := hide (out_step K.toNat (by omega) k out hp (unhide hd))
      go_wp2
      go_roundw
      case rel => exact ⟨k / 10, _, by omega, by omega, (unhide HO).1, rfl, rfl, hide (unhide HO).2, hide ((unhide hbel).alloc hzb _)⟩
      case measure => simp [intOf]; omega
    · have HT : Hid ((⟨#[109]⟩ : ByteArray) ++ out = mtxt K.toNat) := by
        show _ = mtxt K.toNat
        unfold mtxt
        congr 1
        apply Go.WideShapes.bytes_inj
        have h := (unhide hd).2 (by omega)
        rw [← h]
        simp [txt]
      go_wp2
      go_ret
      exact ⟨ret_str (unhide HT), unhide hbel⟩
end Marks
end Go.Proofs.YtkodgbalhnbhcaaGreatDoor
/-
  Contracts of the law files' markItemS, heldItemS, markStore, heldStore: the marks are written into the items' own row and read again.
-/
namespace Go.Proofs.YtkodgbalhnbhcaaGreatDoor
namespace Marks
open Go.RowKit Base NumText Items
set_option linter.unusedVariables false

/-- Cell j of a row of items that bears the marks from k on. -/
def mcell (k : Int) (j : Nat) : Value := if j % 5 = 0 ∨ j % 5 = 2 then .string (mtxt (k + j).toNat) else .int .i64 (k + j)
def mhalf (f : Nat → Value) (k : Int) (i j : Nat) : Value := if j < i * 5 then mcell k j else f j
theorem mhalf_step (f : Nat → Value) (k : Int) (i j : Nat) :
    (if j = i * 5 + 4 then Value.int .i64 (k + i * 5 + 1 + 1 + 1 + 1) else if j = i * 5 + 3 then .int .i64 (k + i * 5 + 1 + 1 + 1) else if j = i * 5 + 2 then .string (mtxt (k + i * 5 + 1 + 1).toNat) else
      if j = i * 5 + 1 then .int .i64 (k + i * 5 + 1) else if j = i * 5 then .string (mtxt (k + i * 5).toNat) else mhalf f k i j) = mhalf f k (i + 1) j := by
  unfold mhalf
  by_cases h4 : j = i * 5 + 4
  · subst h4
    rw [if_pos rfl, if_pos (by omega), mcell, if_neg (by omega)]
    congr 1 <;> omega
  rw [if_neg h4]
  by_cases h3 : j = i * 5 + 3
  · subst h3
    rw [if_pos rfl, if_pos (by omega), mcell, if_neg (by omega)]
    congr 1 <;> omega
  rw [if_neg h3]
  by_cases h2 : j = i * 5 + 2
  · subst h2
    rw [if_pos rfl, if_pos (by omega), mcell, if_pos (by omega)]
    congr 3 <;> omega
  rw [if_neg h2]
  by_cases h1 : j = i * 5 + 1
  · subst h1
    rw [if_pos rfl, if_pos (by omega), mcell, if_neg (by omega)]
    congr 1 <;> omega
  rw [if_neg h1]
  by_cases h0 : j = i * 5
  · subst h0
    rw [if_pos rfl, if_pos (by omega), mcell, if_pos (by omega)]
    congr 3 <;> omega
  rw [if_neg h0]
  by_cases h : j < i * 5
  · rw [if_pos h, if_pos (by omega)]
  · rw [if_neg h, if_neg (by omega)]

set_option maxHeartbeats 2000000 in
theorem items_mark (g cap n : Nat) (f : Nat → Value) (k : Int) (w : World) (hr : RowAt w g 85 (n * 5) f) (hk0 : 0 < k) (hk1 : k ≤ 1000000000000) (hn : n ≤ 1000000000) :
    Calls Tryz.prog 82 #[.slice (some ⟨g, 0, none⟩) n cap, .int .i64 k] w fun e w' =>
      e = .returned (.int .i64 (k + n * 5)) ∧ RowAt w' g 85 (n * 5) (mcell k) ∧ w.grownBy w' (some g) := by
  have HR := hide hr
  clear hr
  go_enter Tryz.func82, Tryz.ntmps82
  go_wp2
  go_loopw [1, 5] (fun kv iv wr => ∃ (i : Nat) (z : Int), i ≤ n ∧ 0 < z ∧ z ≤ 1000000000000 + n * 5 ∧ iv = .int .i64 i ∧ kv = .int .i64 z ∧ Hid (z = k + i * 5) ∧ Hid (RowAt wr g 85 (n * 5) (mhalf f k i)) ∧ Hid (w.grownBy wr (some g))) (fun _ iv _ => n - (intOf iv).toNat)
  case atStart => exact ⟨0, k, Nat.zero_le _, hk0, by omega, rfl, rfl, hide (by simp), hide ((unhide HR).congr (fun j _ => by simp [mhalf])), hide (gb_refl _ _)⟩
  case round =>
    obtain ⟨i, z, hi, hz0, hz1, rfl, rfl, hz, hrow, hgb⟩ := hrel
    by_cases hlt : i < n
    · have hzn : z + 5 ≤ 1000000000000 + n * 5 := by have := unhide hz; omega
      have T1 := hide (fun w => text_any z w hz0 (by omega))
      have T2 := hide (fun w => text_any (z + 1 + 1) w (by omega) (by omega))
      have hst := hide (fun j => mhalf_step f k i j)
      rw [← unhide hz] at hst
      go_wp2_with fail
      refine (unhide T1 _).mono ?_
      rintro e w1 ⟨rfl, hb1⟩
      have r1 := (unhide hrow).below hb1 (unhide hrow).lt
      have d0 := r1.cell (i := i * 5) (by omega)
      have d1 := r1.cell (i := i * 5 + 1) (by omega)
      have f0 := r1.frozen (i * 5)
      have f1 := r1.frozen (i * 5 + 1)
      have G1 := hide (gb_trans (unhide hgb) (gb_below (r := some g) hb1 (Nat.le_refl _)))
      have R1 := hide r1
      clear r1 hb1
      generalize mhalf f k i (i * 5) = o0 at d0
      generalize mhalf f k i (i * 5 + 1) = o1 at d1
      go_wp2_with fail
      refine (unhide T2 _).mono ?_
      rintro e w2 ⟨rfl, hb2⟩
      have r2 := (((unhide R1).set (i * 5) (.string (mtxt z.toNat))).set (i * 5 + 1) (.int .i64 (z + 1))).below hb2 (((unhide R1).set (i * 5) (.string (mtxt z.toNat))).set (i * 5 + 1) (.int .i64 (z + 1))).lt
      have G2 := hide (gb_trans (gb_set (gb_set (unhide G1) (i * 5) (.string (mtxt z.toNat))) (i * 5 + 1) (.int .i64 (z + 1))) (gb_below (r := some g) hb2 (Nat.le_refl _)))
      have d2 := r2.cell (i := i * 5 + 2) (by omega)
      have d3 := r2.cell (i := i * 5 + 3) (by omega)
      have d4 := r2.cell (i := i * 5 + 4) (by omega)
      have f2 := r2.frozen (i * 5 + 2)
      have f3 := r2.frozen (i * 5 + 3)
      have f4 := r2.frozen (i * 5 + 4)
      have r5 := hide (((r2.set (i * 5 + 2) (.string (mtxt (z + 1 + 1).toNat))).set (i * 5 + 3) (.int .i64 (z + 1 + 1 + 1))).set (i * 5 + 4) (.int .i64 (z + 1 + 1 + 1 + 1)))
      have G5 := hide (gb_set (gb_set (gb_set (unhide G2) (i * 5 + 2) (.string (mtxt (z + 1 + 1).toNat))) (i * 5 + 3) (.int .i64 (z + 1 + 1 + 1))) (i * 5 + 4) (.int .i64 (z + 1 + 1 + 1 + 1)))
      clear r2 hb2 d0 d1 f0 f1
      generalize (if i * 5 + 2 = i * 5 + 1 then Value.int .i64 (z + 1) else if i * 5 + 2 = i * 5 then Value.string (mtxt z.toNat) else mhalf f k i (i * 5 + 2)) = o2 at d2
      generalize (if i * 5 + 3 = i * 5 + 1 then Value.int .i64 (z + 1) else if i * 5 + 3 = i * 5 then Value.string (mtxt z.toNat) else mhalf f k i (i * 5 + 3)) = o3 at d3
      generalize (if i * 5 + 4 = i * 5 + 1 then Value.int .i64 (z + 1) else if i * 5 + 4 = i * 5 then Value.string (mtxt z.toNat) else mhalf f k i (i * 5 + 4)) = o4 at d4
      go_wp2
      go_roundw
      case rel => exact ⟨i + 1, z + 1 + 1 + 1 + 1 + 1, by omega, by omega, by omega, by go_num, rfl, hide (by have := unhide hz; omega), hide ((unhide r5).congr (fun j _ => unhide hst j)), G5⟩
      case measure => simp [intOf]; omega
    · obtain rfl : i = n := by omega
      have HZ := hide (unhide hz)
      go_wp2
      go_ret
      exact ⟨ret_int (unhide HZ), (unhide hrow).congr (fun j hj => by unfold mhalf; rw [if_pos hj]), unhide hgb⟩

theorem mstr (k : Int) (j : Nat) (h : j % 5 = 0 ∨ j % 5 = 2) : mcell k j = .string (mtxt (k + j).toNat) := by unfold mcell; rw [if_pos h]
theorem mint (k : Int) (j : Nat) (h : ¬ (j % 5 = 0 ∨ j % 5 = 2)) : mcell k j = .int .i64 (k + j) := by unfold mcell; rw [if_neg h]

set_option maxHeartbeats 2000000 in
theorem items_held (g cap n : Nat) (k : Int) (w : World) (hr : RowAt w g 85 (n * 5) (mcell k)) (hk0 : 0 < k) (hk1 : k ≤ 1000000000000) (hn : n ≤ 1000000000) :
    Calls Tryz.prog 83 #[.slice (some ⟨g, 0, none⟩) n cap, .int .i64 k] w fun e w' => e = .returned (.int .i64 (k + n * 5)) ∧ Below w.heap.size w w' := by
  have HR := hide hr
  clear hr
  go_enter Tryz.func83, Tryz.ntmps83
  go_wp2
  go_loopw [1, 5] (fun kv iv wr => ∃ (i : Nat) (z : Int), i ≤ n ∧ 0 < z ∧ z ≤ 1000000000000 + n * 5 ∧ iv = .int .i64 i ∧ kv = .int .i64 z ∧ Hid (z = k + i * 5) ∧ Hid (Below w.heap.size w wr)) (fun _ iv _ => n - (intOf iv).toNat)
  case atStart => exact ⟨0, k, Nat.zero_le _, hk0, by omega, rfl, rfl, hide (by simp), hide (Below.refl _ _)⟩
  case round =>
    obtain ⟨i, z, hi, hz0, hz1, rfl, rfl, hz, hbel⟩ := hrel
    by_cases hlt : i < n
    · have hzn : z + 5 ≤ 1000000000000 + n * 5 := by have := unhide hz; omega
      have T1 := hide (fun w => text_any z w hz0 (by omega))
      have T2 := hide (fun w => text_any (z + 1 + 1) w (by omega) (by omega))
      have hzz := unhide hz
      have row := (unhide HR).below (unhide hbel) (unhide HR).lt
      have c0 : wr.cell? ⟨g, i * 5, none⟩ = some (.string (mtxt z.toNat)) := by rw [row.cell (by omega), mstr k (i * 5) (by omega), show k + (i * 5 : Nat) = z by omega]
      have c1 : wr.cell? ⟨g, i * 5 + 1, none⟩ = some (.int .i64 (z + 1)) := by rw [row.cell (by omega), mint k (i * 5 + 1) (by omega), show k + (i * 5 + 1 : Nat) = z + 1 by omega]
      have c2 : wr.cell? ⟨g, i * 5 + 2, none⟩ = some (.string (mtxt (z + 1 + 1).toNat)) := by rw [row.cell (by omega), mstr k (i * 5 + 2) (by omega), show k + (i * 5 + 2 : Nat) = z + 1 + 1 by omega]
      have c3 : wr.cell? ⟨g, i * 5 + 3, none⟩ = some (.int .i64 (z + 1 + 1 + 1)) := by rw [row.cell (by omega), mint k (i * 5 + 3) (by omega), show k + (i * 5 + 3 : Nat) = z + 1 + 1 + 1 by omega]
      have c4 : wr.cell? ⟨g, i * 5 + 4, none⟩ = some (.int .i64 (z + 1 + 1 + 1 + 1)) := by rw [row.cell (by omega), mint k (i * 5 + 4) (by omega), show k + (i * 5 + 4 : Nat) = z + 1 + 1 + 1 + 1 by omega]
      have hglt : g < wr.heap.size := row.lt
      clear row hzz
      go_wp2
      go_region_with (go_at_call 53; refine (unhide T1 _).mono ?_; rintro e w1 ⟨rfl, hb1⟩; have hc1 := fun o => hb1.cell (p := ⟨g, o, none⟩) hglt; have hb1 := hide hb1)
      all_goals
        go_wp2
        have hg1 : g < w1.heap.size := Nat.lt_of_lt_of_le hglt (unhide hb1).size
        go_region_with (go_at_call 53; refine (unhide T2 _).mono ?_; rintro e w2 ⟨rfl, hb2⟩; have hc2 := fun o => hb2.cell (p := ⟨g, o, none⟩) hg1; have hb2 := hide hb2)
        all_goals
          go_wp2
          go_roundw
          case rel => exact ⟨i + 1, z + 1 + 1 + 1 + 1 + 1, by omega, by omega, by omega, by go_num, rfl, hide (by have := unhide hz; omega), hide (((unhide hbel).drew.trans ((unhide hb1).mono (unhide hbel).size)).drew.trans ((unhide hb2).mono (Nat.le_trans (unhide hbel).size (unhide hb1).size)))⟩
          case measure => simp [intOf]; omega
    · obtain rfl : i = n := by omega
      have HZ := hide (unhide hz)
      go_wp2
      go_ret
      exact ⟨ret_int (unhide HZ), unhide hbel⟩

/-- A slice of n items that may be written: empty, or the head of a row of its own; r names the row. -/
def Ours (w : World) (a : Option Addr) (n : Nat) (f : Nat → Value) (r : Option Nat) : Prop :=
  (n = 0 ∧ r = none) ∨ ∃ g, a = some ⟨g, 0, none⟩ ∧ r = some g ∧ RowAt w g 85 (n * 5) f
theorem Ours.below {w w' : World} {a : Option Addr} {n : Nat} {f : Nat → Value} {r : Option Nat} {B : Nat} (h : Ours w a n f r) (hb : Below B w w') (hB : w.heap.size ≤ B) : Ours w' a n f r := by
  rcases h with h | ⟨g, ha, hr, h⟩
  · exact .inl h
  · exact .inr ⟨g, ha, hr, h.below hb (Nat.lt_of_lt_of_le h.lt hB)⟩
theorem Ours.gb {w w' : World} {a : Option Addr} {n : Nat} {f : Nat → Value} {r q : Option Nat} (h : Ours w a n f r) (hg : w.grownBy w' q) (hne : ∀ g, r = some g → some g ≠ q) : Ours w' a n f r := by
  rcases h with h | ⟨g, ha, hr, h⟩
  · exact .inl h
  · exact .inr ⟨g, ha, hr, h.of_block (hg.block g h.lt (hne g hr))⟩
theorem Ours.lt {w : World} {a : Option Addr} {n : Nat} {f : Nat → Value} {r : Option Nat} (h : Ours w a n f r) : ∀ g, r = some g → g < w.heap.size := by
  intro g e
  rcases h with ⟨_, hr⟩ | ⟨g', _, hr, h⟩
  · rw [hr] at e; simp at e
  · rw [hr] at e; simp at e; rw [← e]; exact h.lt
theorem Ours.at {w : World} {a : Option Addr} {its : List Itm} {r : Option Nat} (h : Ours w a its.length (icell its) r) : ItemsAt w a its := by
  intro hne
  rcases h with ⟨h0, _⟩ | ⟨g, ha, _, c, hb, hn, hc⟩
  · exact absurd (List.length_eq_zero_iff.1 h0) hne
  · have hrow : RowAt w g 85 (its.length * 5) (icell its) := ⟨c, hb, hn, hc⟩
    refine ⟨g, 0, ha, hrow.lt, fun i hi => ?_⟩
    rw [Nat.zero_add]
    refine ⟨?_, ?_, ?_, ?_, ?_⟩
    · rw [hrow.cell (by omega), icell, show (i * 5) % 5 = 0 by omega, show (i * 5) / 5 = i by omega]; simp
    · rw [hrow.cell (by omega), icell, show (i * 5 + 1) % 5 = 1 by omega, show (i * 5 + 1) / 5 = i by omega]; simp
    · rw [hrow.cell (by omega), icell, show (i * 5 + 2) % 5 = 2 by omega, show (i * 5 + 2) / 5 = i by omega]; simp
    · rw [hrow.cell (by omega), icell, show (i * 5 + 3) % 5 = 3 by omega, show (i * 5 + 3) / 5 = i by omega]; simp
    · rw [hrow.cell (by omega), icell, show (i * 5 + 4) % 5 = 4 by omega, show (i * 5 + 4) / 5 = i by omega]; simp
theorem Ours.row {w : World} {b : Nat} {its : List Itm} (h : w.rowIs b 85 (its.length * 5) (icell its)) : Ours w (some ⟨b, 0, none⟩) its.length (icell its) (some b) :=
  .inr ⟨b, rfl, rfl, RowAt.of_row h⟩

set_option maxHeartbeats 400000 in
theorem items_mark_any (a : Option Addr) (cap n : Nat) (f : Nat → Value) (r : Option Nat) (k : Int) (w : World) (hr : Ours w a n f r) (hk0 : 0 < k) (hk1 : k ≤ 1000000000000) (hn : n ≤ 1000000000) :
    Calls Tryz.prog 82 #[.slice a n cap, .int .i64 k] w fun e w' => e = .returned (.int .i64 (k + n * 5)) ∧ Ours w' a n (mcell k) r ∧ w.grownBy w' r := by
  rcases hr with ⟨h0, hr0⟩ | ⟨g, rfl, rfl, h⟩
  · subst h0 hr0
    go_enter Tryz.func82, Tryz.ntmps82
    go_wp2
    go_loop [1, 5] (fun kv i => i = .int .i64 0 ∧ kv = .int .i64 k) (fun _ _ => 0)
    case atStart => exact ⟨rfl, rfl⟩
    case round =>
      obtain ⟨rfl, rfl⟩ := hrel
      go_wp2
      go_ret
      exact ⟨ret_int (by simp), .inl ⟨rfl, rfl⟩, gb_refl _ _⟩
  · exact (items_mark g cap n f k w h hk0 hk1 hn).mono fun e w' ⟨he, h1, h2⟩ => ⟨he, .inr ⟨g, rfl, rfl, h1⟩, h2⟩
set_option maxHeartbeats 400000 in
theorem items_held_any (a : Option Addr) (cap n : Nat) (r : Option Nat) (k : Int) (w : World) (hr : Ours w a n (mcell k) r) (hk0 : 0 < k) (hk1 : k ≤ 1000000000000) (hn : n ≤ 1000000000) :
    Calls Tryz.prog 83 #[.slice a n cap, .int .i64 k] w fun e w' => e = .returned (.int .i64 (k + n * 5)) ∧ Below w.heap.size w w' := by
  rcases hr with ⟨h0, hr0⟩ | ⟨g, rfl, rfl, h⟩
  · subst h0 hr0
    go_enter Tryz.func83, Tryz.ntmps83
    go_wp2
    go_loop [1, 5] (fun kv i => i = .int .i64 0 ∧ kv = .int .i64 k) (fun _ _ => 0)
    case atStart => exact ⟨rfl, rfl⟩
    case round =>
      obtain ⟨rfl, rfl⟩ := hrel
      go_wp2
      go_ret
      exact ⟨ret_int (by simp), Below.refl _ _⟩
  · exact items_held g cap n k w h hk0 hk1 hn
end Marks
end Go.Proofs.YtkodgbalhnbhcaaGreatDoor
