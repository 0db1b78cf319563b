/-
  A slice of items that the call itself has made by append: its cells one behind the other. No Go function is spoken of here.
-/
import Derived.Test.YtghckjmpcokhcaaGreatDoorItemsZ
import Derived.Test.YtghckjmpcokhcaaGreatDoorMarkZ
import Derived.Test.YtghckjmpcokhcaaGreatDoorMergeX
import Derived.Test.YtghckjmpcokhcaaGreatDoorRows
import Derived.Laws.AppendOwn
import Derived.Lib.AppendZerosOnto
import Derived.Lib.AppendZeros
namespace Go.Proofs.YtghckjmpcokhcaaGreatDoor
namespace Own
open Go.RowKit Base Items Marks

def cellsOf (x : Itm) : List Value := [.string x.key, .int .i64 x.flags, .string x.data, .int .i64 x.upto, .int .i64 x.token]
def flat (its : List Itm) : List Value := its.flatMap cellsOf
theorem flat_append (a b : List Itm) : flat (a ++ b) = flat a ++ flat b := by simp [flat]
theorem flat_one (x : Itm) : flat [x] = cellsOf x := by simp [flat]
theorem flat_length (its : List Itm) : (flat its).length = its.length * 5 := by
  induction its with
  | nil => rfl
  | cons x r ih =>
    have e : flat (x :: r) = cellsOf x ++ flat r := by simp [flat]
    rw [e, List.length_append, ih]
    simp [cellsOf]; omega
theorem icell_cons (x : Itm) (r : List Itm) (j : Nat) : icell (x :: r) (j + 5) = icell r j := by
  unfold icell
  rw [show (j + 5) % 5 = j % 5 by omega, show (j + 5) / 5 = j / 5 + 1 by omega]
  simp
theorem flat_get (its : List Itm) (j : Nat) (hj : j < its.length * 5) : (flat its)[j]? = some (icell its j) := by
  induction its generalizing j with
  | nil => simp at hj
  | cons x r ih =>
    have e : flat (x :: r) = cellsOf x ++ flat r := by simp [flat]
    rw [e]
    by_cases h : j < 5
    · rw [List.getElem?_append_left (by simp [cellsOf]; omega)]
      obtain rfl | rfl | rfl | rfl | rfl : j = 0 ∨ j = 1 ∨ j = 2 ∨ j = 3 ∨ j = 4 := by omega
      all_goals simp [cellsOf, icell]
    · obtain ⟨i, rfl⟩ : ∃ i, j = i + 5 := ⟨j - 5, by omega⟩
      rw [List.getElem?_append_right (by simp [cellsOf]), icell_cons]
      have el : (cellsOf x).length = 5 := rfl
      rw [el, Nat.add_sub_cancel]
      exact ih i (by simp at hj; omega)

theorem own_below {w w' : World} {base : Nat} {e : TypeId} {size : Nat} {v : Value} {n : Nat} {xs : List Value} {B : Nat} (h : w.ownsRow base e size v n xs) (hb : Below B w w') (hB : w.heap.size ≤ B) : w'.ownsRow base e size v n xs := by
  refine ⟨h.1, h.2.elim Or.inl ?_⟩
  rintro ⟨g, cap, cur, hv, hg, hh, r⟩
  have hlt : g < w.heap.size := (Array.getElem?_eq_some_iff.1 hh).1
  exact Or.inr ⟨g, cap, cur, hv, hg, by rw [hb.block g (by omega)]; exact hh, r⟩
theorem own_block {w : World} {base : Nat} {e : TypeId} {size : Nat} {v : Value} {n : Nat} {xs : List Value} (h : w.ownsRow base e size v n xs) : ∀ k, v.ownBlock = some k → base ≤ k := by
  intro k hk
  rcases h.2 with ⟨rfl, _⟩ | ⟨g, cap, cur, rfl, hg, _⟩
  · simp [Value.ownBlock] at hk
  · simp [Value.ownBlock] at hk; omega
theorem own_form {w : World} {base : Nat} {e : TypeId} {size : Nat} {v : Value} {n : Nat} {xs : List Value} (h : w.ownsRow base e size v n xs) : ∃ a cap, v = .slice a n cap := by
  rcases h.2 with ⟨rfl, rfl⟩ | ⟨g, cap, cur, rfl, _⟩
  · exact ⟨none, 0, rfl⟩
  · exact ⟨_, _, rfl⟩
theorem own_at {w : World} {base : Nat} {a : Option Addr} {cap : Nat} {its : List Itm} (h : w.ownsRow base 35 5 (.slice a its.length cap) its.length (flat its)) : ItemsAt w a its := by
  intro hne
  rcases h.2 with ⟨_, h0⟩ | ⟨g, cap', cur, hv, hg, hh, hn, _, hsz, ht⟩
  · exact absurd (List.length_eq_zero_iff.1 h0) hne
  · simp only [Value.slice.injEq] at hv
    have hrow : RowAt w g 35 (its.length * 5) (icell its) := ⟨cur, hh, by rw [hsz]; omega, fun i hi => by
      rw [← flat_get its i hi, ← ht, List.getElem?_take_of_lt hi]
      simp⟩
    refine ⟨g, 0, hv.1, hrow.lt, fun i hi => ?_⟩
    rw [Nat.zero_add]
    refine ⟨?_, ?_, ?_, ?_, ?_⟩
    · rw [hrow.cell (by omega), icell, show (i * 5) % 5 = 0 by omega, show (i * 5) / 5 = i by omega]; simp
    · rw [hrow.cell (by omega), icell, show (i * 5 + 1) % 5 = 1 by omega, show (i * 5 + 1) / 5 = i by omega]; simp
    · rw [hrow.cell (by omega), icell, show (i * 5 + 2) % 5 = 2 by omega, show (i * 5 + 2) / 5 = i by omega]; simp
    · rw [hrow.cell (by omega), icell, show (i * 5 + 3) % 5 = 3 by omega, show (i * 5 + 3) / 5 = i by omega]; simp
    · rw [hrow.cell (by omega), icell, show (i * 5 + 4) % 5 = 4 by omega, show (i * 5 + 4) / 5 = i by omega]; simp
theorem own_le {w : World} {base base' : Nat} {e : TypeId} {size : Nat} {v : Value} {n : Nat} {xs : List Value} (h : w.ownsRow base e size v n xs) (hb : base' ≤ base) : w.ownsRow base' e size v n xs :=
  ⟨h.1, h.2.elim Or.inl (fun ⟨g, cap, cur, hv, hg, r⟩ => Or.inr ⟨g, cap, cur, hv, Nat.le_trans hb hg, r⟩)⟩
theorem news_cells (w : World) (x : Itm) (t : TypeId) (j : Nat) (u : Value) (hj : (cellsOf x)[j]? = some u) :
    (w.alloc (.cells #[.string x.key, .int .i64 x.flags, .string x.data, .int .i64 x.upto, .int .i64 x.token] t)).cell? ((⟨w.heap.size, 0, none⟩ : Addr).add j) = some u := by
  rw [Go.WideShapes.add_plain, Nat.zero_add, World.cell?_alloc_new]
  show (cellsOf x).toArray[j]? = some u
  simpa using hj
theorem news_one (x : Itm) (u : Value) (hu : u ∈ cellsOf x) : u.oneCell' = true := by
  simp only [cellsOf, List.mem_cons, List.not_mem_nil, or_false] at hu
  rcases hu with rfl | rfl | rfl | rfl | rfl <;> rfl
theorem own_snoc {w : World} {base : Nat} {t : TypeId} {v : Value} {kept kept' : List Itm} {x : Itm} (h : w.ownsRow base t 5 v (kept.length + 1) (flat kept ++ cellsOf x)) (e : kept' = kept ++ [x]) : w.ownsRow base t 5 v kept'.length (flat kept') := by
  rw [e, flat_append, flat_one, List.length_append]
  exact h
end Own
end Go.Proofs.YtghckjmpcokhcaaGreatDoor
/-
  slices.Grow of nothing, and slices.Concat of what the keys have taken: each nothing or one item.
-/
namespace Go.Proofs.YtghckjmpcokhcaaGreatDoor
namespace Merge
open Go.RowKit Base Items Split Marks
set_option linter.unusedVariables false

theorem info_item4 : ∃ i, Tryz.prog.info? 35 = some i ∧ i.zero = some (.agg #[.string ByteArray.empty, .int .i64 0, .string ByteArray.empty, .int .i64 0, .int .i64 0]) ∧ i.size = 5 ∧ i.bytes = 56 := by
  have h : (Tryz.prog.info? 35).map (fun i => (i.zero, i.size, i.bytes)) = some (some (.agg #[.string ByteArray.empty, .int .i64 0, .string ByteArray.empty, .int .i64 0, .int .i64 0]), 5, 56) := by kernel_rfl
  obtain ⟨i, hi, hz⟩ := Option.map_eq_some_iff.1 h
  simp only [Prod.mk.injEq] at hz
  exact ⟨i, hi, hz.1, hz.2.1, hz.2.2⟩

set_option maxRecDepth 10000 in
set_option maxHeartbeats 1000000 in
theorem grow_any (n : Nat) (hn : n ≤ 60) (w : World) :
    Calls Tryz.prog 67 #[.slice none 0 0, .int .i64 (n : Int)] w fun e w' => ∃ v, e = .returned v ∧ w'.ownsRow w.heap.size 35 5 v 0 [] ∧ Below w.heap.size w w' := by
  by_cases h0 : n = 0
  · subst h0
    go_enter Tryz.func67, Tryz.ntmps67
    go_wp2
    go_ret
    exact ⟨_, rfl, World.ownsRow_nil _ _ _ _, Below.refl _ _⟩
  · obtain ⟨i0, hi, hz0, hz1, hz2⟩ := info_item4
    have hrz : ∀ ty, (Builtin.append_ #[33, 3] ty #[.slice none 0 0, .int .i64 (n : Int)]).run Tryz.prog w =
        .ok (.slice (some ⟨w.heap.size, 0, none⟩) n (grownCap w n 0 35)) (w.drew.alloc (.cells (Builtin.zeroCells #[.string ByteArray.empty, .int .i64 0, .string ByteArray.empty, .int .i64 0, .int .i64 0] n ++ Builtin.zeroCells #[.string ByteArray.empty, .int .i64 0, .string ByteArray.empty, .int .i64 0, .int .i64 0] (grownCap w n 0 35 - n)) 35)) := fun ty => by
      have h := Lib.run_append_grow_zeros w 33 3 ty 35 i0 _ .i64 .i64 Tryz.underlying33 Tryz.underlying3 hi hz0 none 0 0 [] (run_firstCells_none w.drew i0.size 0 0 0) n (by omega) (by rw [hz1]; decide) (by omega) (by omega) (by rw [hz2]; omega) (by rw [hz2]; exact growslice_fits (by omega) (by omega))
      simpa [Value.cells] using h
    have hGn : n ≤ grownCap w n 0 35 := grownCap_ge w _ _ _
    have hGm : grownCap w n 0 35 ≤ maxLen := grownCap_le_maxLen w n 0 35 (by unfold maxLen; omega)
    have HOWN : Hid (((w.drew.alloc (.cells (Builtin.zeroCells #[.string ByteArray.empty, .int .i64 0, .string ByteArray.empty, .int .i64 0, .int .i64 0] n ++ Builtin.zeroCells #[.string ByteArray.empty, .int .i64 0, .string ByteArray.empty, .int .i64 0, .int .i64 0] (grownCap w n 0 35 - n)) 35))).ownsRow w.heap.size 35 5 (.slice (some ⟨w.heap.size, 0, none⟩) 0 (grownCap w n 0 35)) 0 []) := by
      refine ⟨rfl, .inr ⟨w.heap.size, _, _, rfl, Nat.le_refl _, heap_alloc_new w.drew _, Nat.zero_le _, hGm, ?_, rfl⟩⟩
      rw [Array.size_append, size_zeroCells, size_zeroCells]
      show n * 5 + (_ - n) * 5 = _
      omega
    have HB : Hid (Below w.heap.size w (w.drew.alloc (.cells (Builtin.zeroCells #[.string ByteArray.empty, .int .i64 0, .string ByteArray.empty, .int .i64 0, .int .i64 0] n ++ Builtin.zeroCells #[.string ByteArray.empty, .int .i64 0, .string ByteArray.empty, .int .i64 0, .int .i64 0] (grownCap w n 0 35 - n)) 35))) := (Below.refl _ w).drew.alloc (by simp) _
    have hG63 : grownCap w n 0 35 ≤ 9223372036854775807 := by unfold maxLen at hGm; omega
    generalize grownCap w n 0 35 = G at hrz hGn hGm HOWN HB hG63
    generalize (w.drew.alloc (.cells (Builtin.zeroCells #[.string ByteArray.empty, .int .i64 0, .string ByteArray.empty, .int .i64 0, .int .i64 0] n ++ Builtin.zeroCells #[.string ByteArray.empty, .int .i64 0, .string ByteArray.empty, .int .i64 0, .int .i64 0] (G - n)) 35)) = W at hrz HOWN HB
    have h1 : ¬ ((n : Int) < 0) := by omega
    have h2 : IntKind.i64.wrap (0 : Int) = 0 := rfl
    have h3 : IntKind.i64.wrap (n : Int) = (n : Int) := by rw [IntKind.wrap_i64]; omega
    have h4 : (0 : Int) < (n : Int) := by omega
    clear hi hz0 hz1 hz2
    go_enter Tryz.func67, Tryz.ntmps67
    go_wp2_with (at_builtin; refine Lib.wpList_append_run _ rfl _ _ _ _ rfl _ _ rfl rfl _ _ (hrz _) ?_)
    go_ret
    exact ⟨_, rfl, unhide HOWN, unhide HB⟩

/-- What the first k keys have taken. -/
def sofar (X : Nat → Option Itm) (k : Nat) : List Itm := (List.range k).flatMap (fun k => (X k).toList)
theorem sofar_succ (X : Nat → Option Itm) (k : Nat) : sofar X (k + 1) = sofar X k ++ (X k).toList := by
  unfold sofar; rw [List.range_succ, List.flatMap_append]; simp
theorem sofar_len (X : Nat → Option Itm) : ∀ k, (sofar X k).length ≤ k
  | 0 => by simp [sofar]
  | k + 1 => by
    rw [sofar_succ, List.length_append]
    have := sofar_len X k
    cases X k <;> simp <;> omega
theorem news_at {w : World} {g o : Nat} {x : Itm} (h : At w g o x) (j : Nat) (u : Value) (hj : (Own.cellsOf x)[j]? = some u) : w.cell? ((⟨g, o, none⟩ : Addr).add j) = some u := by
  rw [Go.WideShapes.add_plain]
  obtain ⟨c0, c1, c2, c3, c4⟩ := h
  match j with
  | 0 => simp only [Own.cellsOf, List.getElem?_cons_zero, Option.some.injEq] at hj; subst hj; exact c0
  | 1 => simp [Own.cellsOf] at hj; subst hj; exact c1
  | 2 => simp [Own.cellsOf] at hj; subst hj; exact c2
  | 3 => simp [Own.cellsOf] at hj; subst hj; exact c3
  | 4 => simp [Own.cellsOf] at hj; subst hj; exact c4
  | j + 5 => simp [Own.cellsOf] at hj

set_option maxRecDepth 10000 in
set_option maxHeartbeats 2000000 in
theorem concat_some (tb N tcap : Nat) (F : Nat → Value) (X : Nat → Option Itm) (w : World) (ht : RowAt w tb 33 N F) (hN : N ≤ 60) (hh : ∀ k, k < N → Holds w tb (F k) (X k)) :
    Calls Tryz.prog 36 #[.slice (some ⟨tb, 0, none⟩) N tcap] w fun e w' => ∃ v, e = .returned v ∧ w'.ownsRow w.heap.size 35 5 v (sofar X N).length (Own.flat (sofar X N)) ∧ Below w.heap.size w w' := by
  have htl := ht.lt
  have HT := hide ht
  have HH := hide hh
  have HGR := hide grow_any
  obtain ⟨i0, hi, hz0, hz1, hz2⟩ := info_item4
  have HI := hide hi
  have HZ0 := hide hz0
  have HZ1 := hide hz1
  have HZ2 := hide hz2
  clear ht hh hi hz0 hz1 hz2
  go_enter Tryz.func36, Tryz.ntmps36
  go_wp2_with fail
  go_loopw [3, 11] (fun zv iv wr => ∃ (k z : Nat), k ≤ N ∧ iv = .int .i64 (k : Int) ∧ zv = .int .i64 (z : Int) ∧ z ≤ k ∧ Hid (z = (sofar X k).length) ∧ Hid (Below w.heap.size w wr)) (fun _ iv _ => N - (intOf iv).toNat)
  case atStart => exact ⟨0, 0, Nat.zero_le _, rfl, rfl, Nat.le_refl _, hide rfl, hide (Below.refl _ _)⟩
  case round =>
    obtain ⟨k, z, hk, rfl, rfl, hzk, hz, hbw⟩ := hrel
    by_cases hlt : k < N
    · have c0 : wr.cell? ⟨tb, k, none⟩ = some (F k) := ((unhide hbw).cell (p := ⟨tb, k, none⟩) htl).trans ((unhide HT).cell hlt)
      have hst := sofar_succ X k
      have hhk := unhide HH k hlt
      cases hx : X k with
      | none =>
        rw [hx] at hhk hst
        have hF : F k = .slice none 0 0 := hhk
        rw [hF] at c0
        have HZ : Hid (z = (sofar X (k + 1)).length) := hide (by rw [hst]; simpa using unhide hz)
        have hw0 : IntKind.i64.wrap (z : Int) = (z : Int) := by rw [IntKind.wrap_i64]; omega
        have hnn : ¬ (z : Int) < 0 := by omega
        clear hst hhk hF hx hz
        go_wp2
        go_roundw
        case rel => exact ⟨k + 1, z, by omega, by go_num, by first | rfl | (congr 1; omega), by omega, HZ, hbw⟩
        case measure => simp [intOf]; omega
      | some x =>
        rw [hx] at hhk hst
        obtain ⟨g, o, c, hF, -, -, -, -⟩ := hhk
        rw [hF] at c0
        have HZ : Hid (z + 1 = (sofar X (k + 1)).length) := hide (by rw [hst, List.length_append, ← unhide hz]; rfl)
        have hw0 : IntKind.i64.wrap ((z : Int) + 1) = ((z + 1 : Nat) : Int) := by rw [IntKind.wrap_i64]; omega
        have hnn : ¬ ((z + 1 : Nat) : Int) < 0 := by omega
        have hnn2 : ¬ (z : Int) + 1 < 0 := by omega
        clear hst hF hx hz
        go_wp2
        go_roundw
        case rel => exact ⟨k + 1, z + 1, by omega, by go_num, by first | rfl | (congr 1; omega) | go_num, by omega, HZ, hbw⟩
        case measure => simp [intOf]; omega
    · obtain rfl : k = N := by omega
      clear hlt
      have hbw0 := hbw
      go_wp2_with fail
      refine (unhide HGR z (by omega) wr).mono ?_
      rintro e w1 ⟨v1, rfl, ho1, hb1⟩
      obtain ⟨a1, c1, rfl⟩ := OwnR.own_form ho1
      have B1 := hide ((unhide hbw).trans (hb1.mono (unhide hbw).size))
      have O1 := hide (OwnR.own_le ho1 (unhide hbw).size)
      have hzz := (unhide B1).size
      clear ho1 hb1 hbw hbw0 hz
      go_wp2_with fail
      go_loopw [6, 27] (fun rv iv wr => ∃ (q n : Nat) (ra : Option Addr) (rc : Nat), q ≤ k ∧ iv = .int .i64 (q : Int) ∧ rv = .slice ra n rc ∧ Hid (n = (sofar X q).length) ∧ n ≤ q ∧ Hid (wr.ownsRow w.heap.size 35 5 (.slice ra n rc) n (Own.flat (sofar X q))) ∧ Hid (Below w.heap.size w wr)) (fun _ iv _ => k - (intOf iv).toNat)
      case atStart => exact ⟨0, 0, a1, c1, Nat.zero_le _, rfl, rfl, hide rfl, Nat.le_refl _, O1, B1⟩
      case round =>
        obtain ⟨q, n, ra, rc, hq, rfl, rfl, hn, hnq, how, hbw⟩ := hrel
        by_cases hlt : q < k
        · have c0 : wr.cell? ⟨tb, q, none⟩ = some (F q) := ((unhide hbw).cell (p := ⟨tb, q, none⟩) htl).trans ((unhide HT).cell hlt)
          have hst := sofar_succ X q
          have hhk := unhide HH q hlt
          cases hx : X q with
          | none =>
            rw [hx] at hhk hst
            have hF : F q = .slice none 0 0 := hhk
            rw [hF] at c0
            rw [Option.toList_none, List.append_nil] at hst
            have HN : Hid (n = (sofar X (q + 1)).length) := by rw [hst]; exact unhide hn
            have HO : Hid (wr.ownsRow w.heap.size 35 5 (.slice ra n rc) n (Own.flat (sofar X (q + 1)))) := by rw [hst]; exact unhide how
            have hrun := fun ty => run_append_owned_none (P := Tryz.prog) (w := wr) w.heap.size 33 ty 35 i0 5 Tryz.underlying33 (unhide HI) _ n _ (unhide how)
            have HRUN := hide hrun
            clear hst hhk hF hx how hn hrun
            go_wp2_with (at_builtin; refine Lib.wpList_append_run _ rfl _ _ _ _ rfl _ _ rfl rfl _ _ (unhide HRUN _) ?_)
            go_roundw
            case rel => exact ⟨q + 1, n, ra, rc, by omega, by go_num, rfl, HN, by omega, HO, hbw⟩
            case measure => simp [intOf]; omega
          | some x =>
            rw [hx] at hhk hst
            obtain ⟨g, o, c, hF, hat, hc1, hgt, hgl⟩ := hhk
            rw [hF] at c0
            rw [Option.toList_some] at hst
            have HAT := hide (hat.below (unhide hbw) hgl)
            have HST := hide hst
            have hzr := (unhide hbw).size
            clear hst hF hx hat
            go_wp2_with (at_builtin; go_loud (refine wpList_append_own _ rfl _ _ 33 rfl w.heap.size 35 i0 _ 5 56 Tryz.underlying33 (unhide HI) (unhide HZ0) (unhide HZ1) (unhide HZ2) rfl (by decide) _ _ _ rfl (unhide how) ⟨g, o, none⟩ 1 c (Own.cellsOf x) rfl rfl (news_at (unhide HAT)) (Own.news_one x) (by unfold maxLen; omega) (by omega) (by omega) ?_))
            intro v5 w5 h5 hg5 _
            obtain ⟨a5, c5, rfl⟩ := OwnR.own_form h5
            have HO : Hid (w5.ownsRow w.heap.size 35 5 (.slice a5 (n + 1) c5) (n + 1) (Own.flat (sofar X (q + 1)))) := by rw [unhide HST, Own.flat_append, Own.flat_one]; exact h5
            have HN : Hid (n + 1 = (sofar X (q + 1)).length) := by rw [unhide HST, List.length_append, ← unhide hn]; rfl
            have HB5 := hide ((unhide hbw).grown hg5 hzr (fun b e => OwnR.own_block (unhide how) b e))
            clear h5 hg5
            go_wp2
            go_roundw
            case rel => exact ⟨q + 1, n + 1, a5, c5, by omega, by go_num, rfl, HN, by omega, HO, HB5⟩
            case measure => simp [intOf]; omega
        · obtain rfl : q = k := by omega
          go_wp2
          go_ret
          exact ⟨_, rfl, by rw [← unhide hn]; exact unhide how, unhide hbw⟩
end Merge
end Go.Proofs.YtghckjmpcokhcaaGreatDoor
