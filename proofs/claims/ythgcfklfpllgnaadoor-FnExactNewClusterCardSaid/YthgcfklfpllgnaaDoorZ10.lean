/-
  Contracts of the model's l2Now, l2Old and l2At, by plain functions of the items.
-/
import Derived.Test.YthgcfklfpllgnaaDoorZ9
import Derived.Test.YthgcfklfpllgnaaDoorZ1
import Derived.Test.YthgcfklfpllgnaaDoorZ2
import Derived.Test.YthgcfklfpllgnaaDoorRows
namespace Go.Proofs.YthgcfklfpllgnaaDoor
namespace Store
open Go.RowKit Base GoodKey Items
set_option linter.unusedVariables false

def oldB (x : Itm) (now : Int) : Bool := (x.upto != 0) && decide (x.upto ≤ now)
def hasKey (key : ByteArray) (x : Itm) : Bool := x.key.toList == key.toList
def atN (its : List Itm) (key : ByteArray) : Option Nat := its.findIdx? (hasKey key)
def atI (its : List Itm) (key : ByteArray) : Int := match atN its key with | some k => k | none => -1
theorem atN_hit {its : List Itm} {key : ByteArray} {k : Nat} (hk : k < its.length) (hn : ∀ j, j < k → hasKey key (its.getD j zero) = false) (h : hasKey key (its.getD k zero) = true) : atN its key = some k := by
  unfold atN
  rw [List.findIdx?_eq_some_iff_getElem]
  refine ⟨hk, ?_, fun j hj => ?_⟩
  · simpa [List.getD_eq_getElem?_getD, List.getElem?_eq_getElem hk] using h
  · have := hn j hj
    rw [List.getD_eq_getElem?_getD, List.getElem?_eq_getElem (show j < its.length by omega)] at this
    simpa using this
theorem atN_none {its : List Itm} {key : ByteArray} (hn : ∀ j, j < its.length → hasKey key (its.getD j zero) = false) : atN its key = none := by
  unfold atN
  rw [List.findIdx?_eq_none_iff]
  intro x hx
  obtain ⟨j, hj, rfl⟩ := List.getElem_of_mem hx
  have := hn j hj
  rw [List.getD_eq_getElem?_getD, List.getElem?_eq_getElem hj] at this
  simpa using this
theorem atN_lt {its : List Itm} {key : ByteArray} {k : Nat} (h : atN its key = some k) : k < its.length := by
  unfold atN at h
  exact (List.findIdx?_eq_some_iff_getElem.1 h).1

/-- What FindItem hands back. -/
def findB (lim nx : Int) (its : List Itm) (now : Int) (key : ByteArray) : Option Itm :=
  if gsB lim nx its = true then if inB now 0 1000000000 = true then match atN its key with | some k => if oldB (its.getD k zero) now = true then none else some (its.getD k zero) | none => none else none else none

def itemV (x : Itm) : Value := .agg #[.string x.key, .int .i64 x.flags, .string x.data, .int .i64 x.upto, .int .i64 x.token]
def findV : Option Itm → Value
  | some x => .tuple #[itemV x, .bool true]
  | none => .tuple #[itemV zero, .bool false]
theorem ret_find {o p : Option Itm} (h : o = p) : Ending.returned (findV o) = .returned (findV p) := by rw [h]

end Store
end Go.Proofs.YthgcfklfpllgnaaDoor
/-
  A slice of items that the call itself has made by append: its cells one behind the other. No Go function is spoken of here.
-/
namespace Go.Proofs.YthgcfklfpllgnaaDoor
namespace Own
open Go.RowKit Base Items Marks

def cellsOf (x : Itm) : List Value := [.string x.key, .int .i64 x.flags, .string x.data, .int .i64 x.upto, .int .i64 x.token]
def flat (its : List Itm) : List Value := its.flatMap cellsOf
theorem flat_append (a b : List Itm) : flat (a ++ b) = flat a ++ flat b := by simp [flat]
theorem flat_one (x : Itm) : flat [x] = cellsOf x := by simp [flat]
theorem flat_length (its : List Itm) : (flat its).length = its.length * 5 := by
  induction its with
  | nil => rfl
  | cons x r ih =>
    have e : flat (x :: r) = cellsOf x ++ flat r := by simp [flat]
    rw [e, List.length_append, ih]
    simp [cellsOf]; omega
theorem icell_cons (x : Itm) (r : List Itm) (j : Nat) : icell (x :: r) (j + 5) = icell r j := by
  unfold icell
  rw [show (j + 5) % 5 = j % 5 by omega, show (j + 5) / 5 = j / 5 + 1 by omega]
  simp
theorem flat_get (its : List Itm) (j : Nat) (hj : j < its.length * 5) : (flat its)[j]? = some (icell its j) := by
  induction its generalizing j with
  | nil => simp at hj
  | cons x r ih =>
    have e : flat (x :: r) = cellsOf x ++ flat r := by simp [flat]
    rw [e]
    by_cases h : j < 5
    · rw [List.getElem?_append_left (by simp [cellsOf]; omega)]
      obtain rfl | rfl | rfl | rfl | rfl : j = 0 ∨ j = 1 ∨ j = 2 ∨ j = 3 ∨ j = 4 := by omega
      all_goals simp [cellsOf, icell]
    · obtain ⟨i, rfl⟩ : ∃ i, j = i + 5 := ⟨j - 5, by omega⟩
      rw [List.getElem?_append_right (by simp [cellsOf]), icell_cons]
      have el : (cellsOf x).length = 5 := rfl
      rw [el, Nat.add_sub_cancel]
      exact ih i (by simp at hj; omega)

theorem own_below {w w' : World} {base : Nat} {e : TypeId} {size : Nat} {v : Value} {n : Nat} {xs : List Value} {B : Nat} (h : w.ownsRow base e size v n xs) (hb : Below B w w') (hB : w.heap.size ≤ B) : w'.ownsRow base e size v n xs := by
  refine ⟨h.1, h.2.elim Or.inl ?_⟩
  rintro ⟨g, cap, cur, hv, hg, hh, r⟩
  have hlt : g < w.heap.size := (Array.getElem?_eq_some_iff.1 hh).1
  exact Or.inr ⟨g, cap, cur, hv, hg, by rw [hb.block g (by omega)]; exact hh, r⟩
theorem own_block {w : World} {base : Nat} {e : TypeId} {size : Nat} {v : Value} {n : Nat} {xs : List Value} (h : w.ownsRow base e size v n xs) : ∀ k, v.ownBlock = some k → base ≤ k := by
  intro k hk
  rcases h.2 with ⟨rfl, _⟩ | ⟨g, cap, cur, rfl, hg, _⟩
  · simp [Value.ownBlock] at hk
  · simp [Value.ownBlock] at hk; omega
theorem own_form {w : World} {base : Nat} {e : TypeId} {size : Nat} {v : Value} {n : Nat} {xs : List Value} (h : w.ownsRow base e size v n xs) : ∃ a cap, v = .slice a n cap := by
  rcases h.2 with ⟨rfl, rfl⟩ | ⟨g, cap, cur, rfl, _⟩
  · exact ⟨none, 0, rfl⟩
  · exact ⟨_, _, rfl⟩
theorem own_at {w : World} {base : Nat} {a : Option Addr} {cap : Nat} {its : List Itm} (h : w.ownsRow base 92 5 (.slice a its.length cap) its.length (flat its)) : ItemsAt w a its := by
  intro hne
  rcases h.2 with ⟨_, h0⟩ | ⟨g, cap', cur, hv, hg, hh, hn, _, hsz, ht⟩
  · exact absurd (List.length_eq_zero_iff.1 h0) hne
  · simp only [Value.slice.injEq] at hv
    have hrow : RowAt w g 92 (its.length * 5) (icell its) := ⟨cur, hh, by rw [hsz]; omega, fun i hi => by
      rw [← flat_get its i hi, ← ht, List.getElem?_take_of_lt hi]
      simp⟩
    refine ⟨g, 0, hv.1, hrow.lt, fun i hi => ?_⟩
    rw [Nat.zero_add]
    refine ⟨?_, ?_, ?_, ?_, ?_⟩
    · rw [hrow.cell (by omega), icell, show (i * 5) % 5 = 0 by omega, show (i * 5) / 5 = i by omega]; simp
    · rw [hrow.cell (by omega), icell, show (i * 5 + 1) % 5 = 1 by omega, show (i * 5 + 1) / 5 = i by omega]; simp
    · rw [hrow.cell (by omega), icell, show (i * 5 + 2) % 5 = 2 by omega, show (i * 5 + 2) / 5 = i by omega]; simp
    · rw [hrow.cell (by omega), icell, show (i * 5 + 3) % 5 = 3 by omega, show (i * 5 + 3) / 5 = i by omega]; simp
    · rw [hrow.cell (by omega), icell, show (i * 5 + 4) % 5 = 4 by omega, show (i * 5 + 4) / 5 = i by omega]; simp
theorem own_le {w : World} {base base' : Nat} {e : TypeId} {size : Nat} {v : Value} {n : Nat} {xs : List Value} (h : w.ownsRow base e size v n xs) (hb : base' ≤ base) : w.ownsRow base' e size v n xs :=
  ⟨h.1, h.2.elim Or.inl (fun ⟨g, cap, cur, hv, hg, r⟩ => Or.inr ⟨g, cap, cur, hv, Nat.le_trans hb hg, r⟩)⟩
theorem news_cells (w : World) (x : Itm) (t : TypeId) (j : Nat) (u : Value) (hj : (cellsOf x)[j]? = some u) :
    (w.alloc (.cells #[.string x.key, .int .i64 x.flags, .string x.data, .int .i64 x.upto, .int .i64 x.token] t)).cell? ((⟨w.heap.size, 0, none⟩ : Addr).add j) = some u := by
  rw [Go.WideShapes.add_plain, Nat.zero_add, World.cell?_alloc_new]
  show (cellsOf x).toArray[j]? = some u
  simpa using hj
theorem news_one (x : Itm) (u : Value) (hu : u ∈ cellsOf x) : u.oneCell' = true := by
  simp only [cellsOf, List.mem_cons, List.not_mem_nil, or_false] at hu
  rcases hu with rfl | rfl | rfl | rfl | rfl <;> rfl
theorem own_snoc {w : World} {base : Nat} {t : TypeId} {v : Value} {kept kept' : List Itm} {x : Itm} (h : w.ownsRow base t 5 v (kept.length + 1) (flat kept ++ cellsOf x)) (e : kept' = kept ++ [x]) : w.ownsRow base t 5 v kept'.length (flat kept') := by
  rw [e, flat_append, flat_one, List.length_append]
  exact h
end Own
end Go.Proofs.YthgcfklfpllgnaaDoor
/-
  The contract of the law files' markText, for every number from 1 on.
-/
namespace Go.Proofs.YthgcfklfpllgnaaDoor
namespace Marks
open Go.RowKit Base NumText
set_option linter.unusedVariables false

theorem dig_step (K k : Nat) (out : List UInt8) (hk : 0 < k) (h : Lib.decDigits K = Lib.decDigits k ++ out) :
    (10 ≤ k → Lib.decDigits K = Lib.decDigits (k / 10) ++ (UInt8.ofNat (48 + k % 10) :: out)) ∧ (k < 10 → Lib.decDigits K = UInt8.ofNat (48 + k % 10) :: out) := by
  constructor
  · intro h10
    rw [h, Lib.decDigits, dif_neg (by omega)]
    simp
  · intro h10
    rw [h, Lib.decDigits, dif_pos h10, Nat.mod_eq_of_lt h10]
    simp

theorem len_eq (b : ByteArray) : b.size = b.data.toList.length := by simp
theorem out_step (K : Nat) (hK : K < 18446744073709551616) (k : Int) (out : ByteArray) (hk : 0 < k) (h : (0 < k → Lib.decDigits K = Lib.decDigits k.toNat ++ out.data.toList) ∧ (k = 0 → Lib.decDigits K = out.data.toList)) :
    ((⟨#[UInt8.ofNat (48 + k % 10).toNat]⟩ : ByteArray) ++ out).size ≤ 20 ∧
    ((0 < k / 10 → Lib.decDigits K = Lib.decDigits (k / 10).toNat ++ ((⟨#[UInt8.ofNat (48 + k % 10).toNat]⟩ : ByteArray) ++ out).data.toList) ∧ (k / 10 = 0 → Lib.decDigits K = ((⟨#[UInt8.ofNat (48 + k % 10).toNat]⟩ : ByteArray) ++ out).data.toList)) := by
  have h2 := dig_step K k.toNat out.data.toList (by omega) (h.1 hk)
  have ec : UInt8.ofNat (48 + k % 10).toNat = UInt8.ofNat (48 + k.toNat % 10) := by rw [show (48 + k % 10).toNat = 48 + k.toNat % 10 by omega]
  have eo : ((⟨#[UInt8.ofNat (48 + k % 10).toNat]⟩ : ByteArray) ++ out).data.toList = UInt8.ofNat (48 + k.toNat % 10) :: out.data.toList := by rw [ec]; simp
  have hlen : (Lib.decDigits K).length ≤ 20 := by
    have := Lib.nDigits_le20 K hK
    rw [Lib.decDigits_eq]; simpa using this
  have esz := len_eq ((⟨#[UInt8.ofNat (48 + k % 10).toNat]⟩ : ByteArray) ++ out)
  refine ⟨?_, ?_, ?_⟩
  · rw [esz, eo]
    by_cases h10 : k.toNat < 10
    · rw [h2.2 h10] at hlen; exact hlen
    · rw [h2.1 (by omega)] at hlen
      simp only [List.length_append] at hlen
      omega
  · intro hp
    rw [eo, show (k / 10).toNat = k.toNat / 10 by omega]
    exact h2.1 (by omega)
  · intro hz
    rw [eo]
    exact h2.2 (by omega)

set_option maxRecDepth 10000 in
set_option maxHeartbeats 1000000 in
theorem text_any (K : Int) (w : World) (h0 : 0 < K) (h1 : K < 9223372036854775808) :
    Calls Tryd.prog 22 #[.int .i64 K] w fun e w' => e = .returned (.string (mtxt K.toNat)) ∧ Below w.heap.size w w' := by
  have hK : ¬ K ≤ 0 := by omega
  go_enter Tryd.func22, Tryd.ntmps22
  go_wp2
  go_loopw [0, 3] (fun kv ov wr => ∃ (k : Int) (out : ByteArray), 0 ≤ k ∧ k < 9223372036854775808 ∧ out.size ≤ 20 ∧ kv = .int .i64 k ∧ ov = .string out ∧
      Hid ((0 < k → Lib.decDigits K.toNat = Lib.decDigits k.toNat ++ out.data.toList) ∧ (k = 0 → Lib.decDigits K.toNat = out.data.toList)) ∧ Hid (Below w.heap.size w wr)) (fun kv _ _ => (intOf kv).toNat)
  case atStart => exact ⟨K, ⟨#[]⟩, by omega, h1, by decide, rfl, rfl, hide ⟨fun _ => by simp, fun h => by omega⟩, hide (Below.refl _ _)⟩
  case round =>
    obtain ⟨k, out, hk0, hk1, hos, rfl, rfl, hd, hbel⟩ := hrel
    by_cases hp : 0 < k
    · have hcv := conv1 (P := Tryd.prog) 81 9 5 (48 + k % 10) (by omega) (by omega) Tryd.underlying81 Tryd.underlying5 Tryd.underlying9
      have hzb := (unhide hbel).size
      have HO := hide (out_step K.toNat (by omega) k out hp (unhide hd))
      go_wp2
      go_roundw
      case rel => exact ⟨k / 10, _, by omega, by omega, (unhide HO).1, rfl, rfl, hide (unhide HO).2, hide ((unhide hbel).alloc hzb _)⟩
      case measure => simp [intOf]; omega
    · have HT : Hid ((⟨#[109]⟩ : ByteArray) ++ out = mtxt K.toNat) := by
        show _ = mtxt K.toNat
        unfold mtxt
        congr 1
        apply Go.WideShapes.bytes_inj
        have h := (unhide hd).2 (by omega)
        rw [← h]
        simp [txt]
      go_wp2
      go_ret
      exact ⟨ret_str (unhide HT), unhide hbel⟩
end Marks
end Go.Proofs.YthgcfklfpllgnaaDoor
