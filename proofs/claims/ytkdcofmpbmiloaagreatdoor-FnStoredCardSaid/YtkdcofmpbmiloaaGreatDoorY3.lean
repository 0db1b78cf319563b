/-
  Forgetting and storing, as plain functions of the items. No Go function is spoken of here.
-/
import Derived.Test.YtkdcofmpbmiloaaGreatDoorY2
import Derived.Deep.RegionHeld3
import Derived.Deep.AppendLies
import Derived.Laws.OwnMore
import Derived.Deep.RegionWith
import Derived.Outline
import Derived.Deep.RegionLaw
namespace Go.Proofs.YtkdcofmpbmiloaaGreatDoor
namespace Store
open Go.RowKit Base GoodKey Items
set_option linter.unusedVariables false

/-- There is room. -/
def fitsB (lim : Int) (l : List Itm) : Bool := decide (total l ≤ lim) && decide ((l.length : Int) ≤ 60)
/-- How many are forgotten. -/
def trimN (lim : Int) : List Itm → Nat
  | [] => 0
  | x :: r => if fitsB lim (x :: r) = true then 0 else trimN lim r + 1
theorem trimN_le (lim : Int) : ∀ l : List Itm, trimN lim l ≤ l.length
  | [] => Nat.le_refl _
  | x :: r => by
    rw [trimN]
    split
    · omega
    · have := trimN_le lim r; simp; omega
theorem trimN_fit {lim : Int} {l : List Itm} (h : fitsB lim l = true) : trimN lim l = 0 := by
  cases l with
  | nil => rfl
  | cons x r => rw [trimN, if_pos h]
theorem trimN_step {lim : Int} {its : List Itm} {k : Nat} (hk : k < its.length) (h : fitsB lim (its.drop k) = false) : trimN lim (its.drop k) = trimN lim (its.drop (k + 1)) + 1 := by
  rw [List.drop_eq_getElem_cons hk] at h ⊢
  rw [trimN, if_neg (by rw [h]; simp)]
/-- The items without the one with a key. -/
def without (its : List Itm) (key : ByteArray) : List Itm := match atN its key with | some k => its.eraseIdx k | none => its
/-- What is stored: the items and how many were forgotten; nothing where it can't be stored. -/
def putR (lim nx : Int) (its : List Itm) (x : Itm) : Option (List Itm × Nat) :=
  if lim < charge x ∨ nx = 1000000000 then none
  else some ((without its x.key ++ [{ x with token := nx }]).drop (trimN lim (without its x.key ++ [{ x with token := nx }])), trimN lim (without its x.key ++ [{ x with token := nx }]))
end Store
end Go.Proofs.YtkdcofmpbmiloaaGreatDoor
/-
  Rows of items that a call has made itself, and appends to them; the model's l2Without and l2Last.
-/
namespace Go.Proofs.YtkdcofmpbmiloaaGreatDoor
namespace Rw
open Go.RowKit Base GoodKey Items Store Own
set_option linter.unusedVariables false

def Row (w : World) (B : Nat) (v : Value) (its : List Itm) : Prop := w.ownsRow B 37 5 v its.length (flat its)
theorem Row.below {w w' : World} {B C : Nat} {v : Value} {its : List Itm} (h : Row w B v its) (hb : Below C w w') (hC : w.heap.size ≤ C) : Row w' B v its := own_below h hb hC
theorem Row.le {w : World} {B C : Nat} {v : Value} {its : List Itm} (h : Row w B v its) (hC : C ≤ B) : Row w C v its := own_le h hC
theorem Row.drew {w : World} {B : Nat} {v : Value} {its : List Itm} (h : Row w B v its) : Row w.drew B v its := own_below h (Below.refl w.heap.size w).drew (Nat.le_refl _)
theorem Row.cells {w : World} {B b n cap : Nat} {its : List Itm} (h : Row w B (.slice (some ⟨b, 0, none⟩) n cap) its) (hn : n = its.length) (j : Nat) (hj : j < its.length * 5) : w.cell? ⟨b, j, none⟩ = (flat its)[j]? := by
  subst hn
  exact World.ownsRow.cellAt h j hj
theorem Row.lt {w : World} {B b n cap : Nat} {its : List Itm} (h : Row w B (.slice (some ⟨b, 0, none⟩) n cap) its) : b < w.heap.size ∧ B ≤ b ∧ its.length ≤ cap := by
  rcases h.2 with ⟨h', _⟩ | ⟨g', cap', cur, h', hB, hg, hc, _, _, _⟩
  · simp at h'
  · simp only [Value.slice.injEq, Option.some.injEq, Addr.mk.injEq, and_true] at h'
    obtain ⟨rfl, h2, rfl⟩ := h'
    exact ⟨(Array.getElem?_eq_some_iff.1 hg).1, hB, hc⟩
theorem Row.at {w : World} {B b n cap : Nat} {its : List Itm} (h : Row w B (.slice (some ⟨b, 0, none⟩) n cap) its) (hn : n = its.length) (i : Nat) (hi : i < its.length) : At w b (0 + i * 5) (its.getD i zero) := by
  have hc := fun j hj => h.cells hn j hj
  rw [Nat.zero_add]
  refine ⟨?_, ?_, ?_, ?_, ?_⟩
  · rw [hc _ (by omega), flat_get _ _ (by omega), icell, show (i * 5) % 5 = 0 by omega, show (i * 5) / 5 = i by omega]; simp
  · rw [hc _ (by omega), flat_get _ _ (by omega), icell, show (i * 5 + 1) % 5 = 1 by omega, show (i * 5 + 1) / 5 = i by omega]; simp
  · rw [hc _ (by omega), flat_get _ _ (by omega), icell, show (i * 5 + 2) % 5 = 2 by omega, show (i * 5 + 2) / 5 = i by omega]; simp
  · rw [hc _ (by omega), flat_get _ _ (by omega), icell, show (i * 5 + 3) % 5 = 3 by omega, show (i * 5 + 3) / 5 = i by omega]; simp
  · rw [hc _ (by omega), flat_get _ _ (by omega), icell, show (i * 5 + 4) % 5 = 4 by omega, show (i * 5 + 4) / 5 = i by omega]; simp
/-- A row is nothing at all, or it has a head of its own. -/
theorem Row.form {w : World} {B : Nat} {v : Value} {its : List Itm} (h : Row w B v its) : (v = .slice none 0 0 ∧ its = []) ∨ ∃ b cap, v = .slice (some ⟨b, 0, none⟩) its.length cap := by
  rcases h.2 with ⟨h', h0⟩ | ⟨g', cap', cur, h', _⟩
  · exact .inl ⟨h', List.eq_nil_of_length_eq_zero h0⟩
  · exact .inr ⟨g', cap', h'⟩
theorem Row.has {w : World} {B : Nat} {v : Value} {its : List Itm} (h : Row w B v its) (hne : 0 < its.length) : ∃ b cap, v = .slice (some ⟨b, 0, none⟩) its.length cap := by
  rcases h.form with ⟨_, rfl⟩ | h
  · simp at hne
  · exact h

theorem flat_take (its : List Itm) (k : Nat) (hk : k ≤ its.length) : flat (its.take k) = (flat its).take (k * 5) := by
  have h1 : flat its = flat (its.take k) ++ flat (its.drop k) := by rw [← flat_append, List.take_append_drop]
  have h2 : (flat (its.take k)).length = k * 5 := by rw [flat_length, List.length_take]; omega
  rw [h1, ← h2, List.take_left]
theorem flat_drop (its : List Itm) (k : Nat) (hk : k ≤ its.length) : flat (its.drop k) = (flat its).drop (k * 5) := by
  have h1 : flat its = flat (its.take k) ++ flat (its.drop k) := by rw [← flat_append, List.take_append_drop]
  have h2 : (flat (its.take k)).length = k * 5 := by rw [flat_length, List.length_take]; omega
  rw [h1, ← h2, List.drop_left]
/-- The cells of a part of a row. -/
theorem Row.news_take {w : World} {B b n cap : Nat} {its : List Itm} (h : Row w B (.slice (some ⟨b, 0, none⟩) n cap) its) (hn : n = its.length) (k : Nat) (hk : k ≤ its.length) (j : Nat) (u : Value) (hj : (flat (its.take k))[j]? = some u) : w.cell? ((⟨b, 0, none⟩ : Addr).add j) = some u := by
  rw [Go.WideShapes.add_plain, Nat.zero_add]
  rw [flat_take its k hk, List.getElem?_take] at hj
  split at hj
  · rename_i hlt
    rw [h.cells hn j (by omega)]; exact hj
  · simp at hj
theorem Row.news_drop {w : World} {B b n cap : Nat} {its : List Itm} (h : Row w B (.slice (some ⟨b, 0, none⟩) n cap) its) (hn : n = its.length) (k : Nat) (hk : k ≤ its.length) (j : Nat) (u : Value) (hj : (flat (its.drop k))[j]? = some u) : w.cell? ((⟨b, k * 5, none⟩ : Addr).add j) = some u := by
  rw [Go.WideShapes.add_plain]
  rw [flat_drop its k hk, List.getElem?_drop] at hj
  have hl : k * 5 + j < (flat its).length := by
    rcases Nat.lt_or_ge (k * 5 + j) (flat its).length with h1 | h1
    · exact h1
    · rw [List.getElem?_eq_none h1] at hj; simp at hj
  rw [flat_length] at hl
  rw [h.cells hn _ hl]; exact hj
theorem flat_one' (its : List Itm) : ∀ u ∈ flat its, u.oneCell' = true := by
  intro u hu
  obtain ⟨x, _, hx⟩ := List.mem_flatMap.1 hu
  exact news_one x u hx

theorem row_empty (w : World) {B : Nat} (hB : B ≤ w.heap.size) : Row (w.alloc (.cells #[] 37)) B (.slice (some ⟨w.heap.size, 0, none⟩) 0 0) [] :=
  World.ownsRow_lit (e := 37) (size := 5) w #[] 0 hB (by decide) rfl
section
variable {ops : Array Oper} {o : Oper} {a : Act} {K : Act → World → Prop} {Q : Exit → Act → World → Prop} {E : Prop}
theorem append_post {w' : World} {B g0 c0 n m : Nat} {its news : List Itm} {v' : Value} (hn : n = its.length) (hm : news.length = m) (h2 : w'.ownsRow B 37 5 v' (its.length + m) (flat its ++ flat news)) (h4 : v' = .slice none 0 0 ↔ (Value.slice (some ⟨g0, 0, none⟩) n c0) = .slice none 0 0 ∧ m = 0) :
    ∃ g cap, v' = .slice (some ⟨g, 0, none⟩) (its.length + m) cap ∧ Row w' B (.slice (some ⟨g, 0, none⟩) (its.length + m) cap) (its ++ news) := by
  have e : its.length + m = (its ++ news).length := by rw [List.length_append, hm]
  rw [e, ← flat_append] at h2
  rcases Row.form (its := its ++ news) h2 with ⟨hv, _⟩ | ⟨g, cap, hv⟩
  · have := (h4.1 hv).1
    simp at this
  · subst hv
    rw [← e] at h2 ⊢
    refine ⟨g, cap, rfl, ?_⟩
    unfold Row
    rw [← e]
    exact h2
theorem wp_items (w : World) (s x : Operand) (ho : o.op = .call { callee := .builtin .append, args := #[s, x], argTypes := #[23, 23] }) (B g0 c0 n : Nat) (its : List Itm) (hs : a.eval s = .slice (some ⟨g0, 0, none⟩) n c0) (hrow : Row w B (.slice (some ⟨g0, 0, none⟩) n c0) its) (hn : n = its.length)
    (ad : Addr) (m c : Nat) (news : List Itm) (hx : a.eval x = .slice (some ad) m c) (hm : news.length = m) (hnews : ∀ j u, (flat news)[j]? = some u → w.cell? (ad.add j) = some u) (r : Nat) (hr : n + m = r) (hl : r ≤ 1000) (hB : B ≤ w.heap.size)
    (h : ∀ g cap w', Row w' B (.slice (some ⟨g, 0, none⟩) r cap) (its ++ news) → w.grownBy w' (some g0) → K (a.put o.dst (.slice (some ⟨g, 0, none⟩) r cap)) w') : Oper.wp Tryz.prog o a w K Q := by
  obtain ⟨i0, hi, hz0, hz1, hz2⟩ := info_ex
  subst hn
  subst hr
  refine wp_append_own w s x 23 ho B 37 i0 _ 5 56 Tryz.underlying23 hi hz0 hz1 hz2 rfl (by decide) _ _ _ hs hrow ad m c (flat news) hx (by rw [flat_length, hm]) hnews (flat_one' news) (by unfold maxLen; omega) (by omega) hB ?_
  intro v' w' h2 h3 h4
  obtain ⟨g, cap, rfl, hr⟩ := append_post rfl hm h2 h4
  exact h g cap w' hr h3
theorem step_items (w : World) (hgd : o.guard = none) (s x : Operand) (ho : o.op = .call { callee := .builtin .append, args := #[s, x], argTypes := #[23, 23] }) (B g0 c0 n : Nat) (its : List Itm) (hs : a.eval s = .slice (some ⟨g0, 0, none⟩) n c0) (hrow : Row w B (.slice (some ⟨g0, 0, none⟩) n c0) its) (hn : n = its.length)
    (ad : Addr) (m c : Nat) (news : List Itm) (hx : a.eval x = .slice (some ad) m c) (hm : news.length = m) (hnews : ∀ j u, (flat news)[j]? = some u → w.cell? (ad.add j) = some u) (r : Nat) (hr : n + m = r) (hl : r ≤ 1000) (hB : B ≤ w.heap.size)
    (h : ∀ g cap w', Row w' B (.slice (some ⟨g, 0, none⟩) r cap) (its ++ news) → w.grownBy w' (some g0) → K (a.put o.dst (.slice (some ⟨g, 0, none⟩) r cap)) w') :
    if Region.wanted o (yielded ops a.tmps) = true then Oper.wp Tryz.prog o a w K Q else E := by
  have hw : Region.wanted o (yielded ops a.tmps) = true := by simp [Region.wanted, hgd]
  rw [if_pos hw]
  exact wp_items w s x ho B g0 c0 n its hs hrow hn ad m c news hx hm hnews r hr hl hB h
theorem list_items {rest : List Oper} (w : World) (hgd : o.guard = none) (s x : Operand) (ho : o.op = .call { callee := .builtin .append, args := #[s, x], argTypes := #[23, 23] }) (B g0 c0 n : Nat) (its : List Itm) (hs : a.eval s = .slice (some ⟨g0, 0, none⟩) n c0) (hrow : Row w B (.slice (some ⟨g0, 0, none⟩) n c0) its) (hn : n = its.length)
    (ad : Addr) (m c : Nat) (news : List Itm) (hx : a.eval x = .slice (some ad) m c) (hm : news.length = m) (hnews : ∀ j u, (flat news)[j]? = some u → w.cell? (ad.add j) = some u) (r : Nat) (hr : n + m = r) (hl : r ≤ 1000) (hB : B ≤ w.heap.size)
    (h : ∀ g cap w', Row w' B (.slice (some ⟨g, 0, none⟩) r cap) (its ++ news) → w.grownBy w' (some g0) → wpList Tryz.prog ops Q rest (a.put o.dst (.slice (some ⟨g, 0, none⟩) r cap)) w') : wpList Tryz.prog ops Q (o :: rest) a w :=
  wpList_plain hgd fun _ hK => wp_items w s x ho B g0 c0 n its hs hrow hn ad m c news hx hm hnews r hr hl hB fun g cap w' h2 h3 => hK _ _ (h g cap w' h2 h3)
end
end Rw
end Go.Proofs.YtkdcofmpbmiloaaGreatDoor
/-
  The model's l2At over rows; l2Without and l2Last.
-/
namespace Go.Proofs.YtkdcofmpbmiloaaGreatDoor
namespace Rw
open Go.RowKit Base GoodKey Items Store Own
set_option linter.unusedVariables false

set_option maxRecDepth 10000 in
set_option maxHeartbeats 400000 in
theorem l2At_nil (lim nx : Int) (key : ByteArray) (w : World) :
    Calls Tryz.prog 70 #[.agg #[.int .i64 lim, .int .i64 nx, .slice none 0 0], .string key] w fun e w' => e = .returned (.int .i64 (-1)) ∧ Below w.heap.size w w' := by
  go_enter Tryz.func70, Tryz.ntmps70
  go_wp2
  go_loopw [10] (fun i wr => i = .int .i64 0 ∧ Hid (Below w.heap.size w wr)) (fun i _ => 0)
  case atStart => exact ⟨rfl, hide (bel1 w _)⟩
  case round =>
    obtain ⟨rfl, hbel⟩ := hrel
    go_wp2
    go_ret
    exact ⟨rfl, unhide hbel⟩
theorem l2At_row (lim nx : Int) (v : Value) (B : Nat) (its : List Itm) (key : ByteArray) (w : World) (hr : Row w B v its) (hl : its.length ≤ maxLen) :
    Calls Tryz.prog 70 #[.agg #[.int .i64 lim, .int .i64 nx, v], .string key] w fun e w' => e = .returned (.int .i64 (atI its key)) ∧ Below w.heap.size w w' := by
  rcases hr.form with ⟨rfl, rfl⟩ | ⟨b, cap, rfl⟩
  · exact l2At_nil lim nx key w
  · exact l2At_some lim nx b 0 cap its key w hr.lt.1 (hr.at rfl) hl

theorem erase_take (its : List Itm) (k : Nat) : its.take k ++ its.drop (k + 1) = its.eraseIdx k := (List.eraseIdx_eq_take_drop_succ its k).symm
theorem Row.gb {w w' : World} {B b n cap : Nat} {its : List Itm} {r : Option Nat} (h : Row w B (.slice (some ⟨b, 0, none⟩) n cap) its) (hg : w.grownBy w' r) (hne : some b ≠ r) : Row w' B (.slice (some ⟨b, 0, none⟩) n cap) its := by
  have hlt := h.lt.1
  refine ⟨h.1, ?_⟩
  rcases h.2 with ⟨h', _⟩ | ⟨g', cap', cur, h', hB, hh, r'⟩
  · simp at h'
  · have e := h'
    simp only [Value.slice.injEq, Option.some.injEq, Addr.mk.injEq, and_true] at h'
    refine .inr ⟨g', cap', cur, e, hB, ?_, r'⟩
    rw [hg.block g' (by omega) (by rw [← h'.1]; exact hne)]
    exact hh

theorem row_empty1 (w : World) (o : Obj) : Row ((w.alloc o).alloc (.cells #[] 37)) (w.heap.size + 1) (.slice (some ⟨w.heap.size + 1, 0, none⟩) 0 0) [] := by
  have h := row_empty (w.alloc o) (B := w.heap.size + 1) (by simp)
  rw [World.size_alloc] at h
  exact h
/-- Where a part of a row begins. -/
def sadr (b s c : Nat) : Addr := if c = s then ⟨b, 0, none⟩ else ⟨b, s * 5, none⟩
set_option maxRecDepth 10000 in
theorem slice_to (b n c k : Nat) (hk : k ≤ c) (w : World) :
    (Instr.slice 23 (.slice (some ⟨b, 0, none⟩) n c) none (some (.int .i64 (k : Int))) none).run Tryz.prog w = .ok (.slice (some ⟨b, 0, none⟩) k c) w := by
  have ht : Tryz.prog.underlying 23 = some (.slice (Tryz.prog.elem 23)) := by kernel_rfl
  have hz : (sizeOf (Tryz.prog.elem 23)).run Tryz.prog w = .ok 5 w := Tryz.sizeOf37 w
  rw [run_slice_h w 23 _ n c ht .i64 k (by omega) (by omega), hz]
  simp only [Result.andThen_ok, sliced, Int.toNat_natCast]
  by_cases h : c = 0
  · rw [if_pos h]; simp
  · rw [if_neg h]
    simp [Go.WideShapes.add_plain]
set_option maxRecDepth 10000 in
theorem slice_from (b n c s : Nat) (j : Int) (hj : j = s) (hs : s ≤ n) (w : World) :
    (Instr.slice 23 (.slice (some ⟨b, 0, none⟩) n c) (some (.int .i64 j)) none none).run Tryz.prog w = .ok (.slice (some (sadr b s c)) (n - s) (c - s)) w := by
  subst hj
  have ht : Tryz.prog.underlying 23 = some (.slice (Tryz.prog.elem 23)) := by kernel_rfl
  have hz : (sizeOf (Tryz.prog.elem 23)).run Tryz.prog w = .ok 5 w := Tryz.sizeOf37 w
  rw [run_slice_l w 23 _ n c ht .i64 s (by omega) (by omega), hz]
  simp only [Result.andThen_ok, sliced, Int.toNat_natCast, sadr]
  by_cases h : c = s
  · rw [if_pos h, if_pos h]
  · rw [if_neg h, if_neg h]
    simp only [Option.map_some, Go.WideShapes.add_plain, Nat.zero_add]
theorem Row.news_from {w : World} {B b n cap : Nat} {its : List Itm} (h : Row w B (.slice (some ⟨b, 0, none⟩) n cap) its) (hn : n = its.length) (k : Nat) (hk : k ≤ its.length) (j : Nat) (u : Value) (hj : (flat (its.drop k))[j]? = some u) : w.cell? ((sadr b k cap).add j) = some u := by
  have hc := h.lt.2.2
  unfold sadr
  by_cases e : cap = k
  · have : its.drop k = [] := List.drop_eq_nil_of_le (by omega)
    rw [this] at hj
    simp [flat] at hj
  · rw [if_neg e]
    exact h.news_drop hn k hk j u hj

set_option maxRecDepth 10000 in
set_option maxHeartbeats 2000000 in
theorem l2Without_row (lim nx : Int) (b cap B : Nat) (its : List Itm) (k : Nat) (w : World) (hr : Row w B (.slice (some ⟨b, 0, none⟩) its.length cap) its) (hk : k < its.length) (hl : its.length ≤ 100) :
    Calls Tryz.prog 85 #[.agg #[.int .i64 lim, .int .i64 nx, .slice (some ⟨b, 0, none⟩) its.length cap], .int .i64 (k : Int)] w fun e w' =>
      ∃ g cap', e = .returned (.slice (some ⟨g, 0, none⟩) (its.eraseIdx k).length cap') ∧ Row w' w.heap.size (.slice (some ⟨g, 0, none⟩) (its.eraseIdx k).length cap') (its.eraseIdx k) ∧ Below w.heap.size w w' := by
  obtain ⟨hlt, hBb, hcap⟩ := hr.lt
  have hw1 : IntKind.i64.wrap ((k : Int) + 1) = (k : Int) + 1 := by rw [IntKind.wrap_i64]; omega
  have hs1 := fun w => slice_to b its.length cap k (by omega) w
  have hs2 := fun w => slice_from b its.length cap (k + 1) ((k : Int) + 1) (by omega) (by omega) w
  have HN1 := hide (fun w' (h : Row w' B (.slice (some ⟨b, 0, none⟩) its.length cap) its) => h.news_take rfl k (by omega))
  have HN2 := hide (fun w' (h : Row w' B (.slice (some ⟨b, 0, none⟩) its.length cap) its) => h.news_from rfl (k + 1) (by omega))
  have HR := hide hr
  have hel : (its.eraseIdx k).length = its.length - 1 := List.length_eraseIdx_of_lt hk
  have l1 : (its.take k).length = k := by rw [List.length_take]; omega
  have l2 : (its.drop (k + 1)).length = its.length - (k + 1) := List.length_drop
  have HE := hide (erase_take its k)
  have hmm : k + (its.length - (k + 1)) = its.length - 1 := by omega
  clear hr
  rw [hel]
  generalize its.eraseIdx k = er at HE hel ⊢
  generalize its.take k = tk at HN1 l1 HE
  generalize its.drop (k + 1) = dr at HN2 l2 HE
  generalize sadr b (k + 1) cap = ad at HN2 hs2
  generalize hnn : its.length = n at *
  go_enter Tryz.func85, Tryz.ntmps85
  go_wp2
  go_region_held3 (fun w' => w'.cell? ⟨w.heap.size, 2, none⟩ = some (.slice (some ⟨b, 0, none⟩) n cap)) (first | go_keep | assumption) (first
    | (refine step_items _ (by rfl) (.tmp 5) (.tmp 9) (by rfl) (w.heap.size + 1) (w.heap.size + 1) 0 0 [] (by rfl) (row_empty1 w _).drew rfl ⟨b, 0, none⟩ k cap tk (by rfl) l1 (unhide HN1 _ (((unhide HR).below (bel2 w _ _) (Nat.le_refl _)).drew)) k (Nat.zero_add k) (by omega) (by simp) ?_; intro g1 cap1 w1 hrow1 hg1; have q1 := (hg1.cell_far ⟨w.heap.size, 2, none⟩ (by simp; omega) (by simp)).trans (by assumption); have HR1 := hide ((((unhide HR).below (bel2 w _ _) (Nat.le_refl _)).drew).gb hg1 (by simp; omega)); have HB1 := hide ((bel2 w _ _).drew.grown hg1 (by simp; omega) (fun k e => by simp at e; omega)); have z1 : w.heap.size + 1 < w1.heap.size := by { have := hg1.size; simp at this; omega }; have HROW1 := hide hrow1; clear hg1 hrow1)
    | (refine step_items _ (by rfl) (.tmp 10) (.tmp 15) (by rfl) (w.heap.size + 1) g1 cap1 k tk (by rfl) (unhide HROW1) l1.symm ad (n - (k + 1)) (cap - (k + 1)) dr (by rfl) l2 (unhide HN2 _ (unhide HR1)) (n - 1) hmm (by omega) (by omega) ?_; intro g2 cap2 w2 hrow2 hg2; have hB1 := (unhide HROW1).lt; have q2 := (hg2.cell_far ⟨w.heap.size, 2, none⟩ (show w.heap.size < w1.heap.size by omega) (by simp; omega)).trans q1; have HB2 := hide ((unhide HB1).grown hg2 (by omega) (fun k e => by simp at e; omega)); have HROW2 := hide hrow2; clear hg2 hrow2))
  all_goals
    go_wp2
    go_ret
    refine ⟨g2, cap2, rfl, ?_, unhide HB2⟩
    rw [← unhide HE]
    exact (unhide HROW2).le (by omega)
end Rw
end Go.Proofs.YtkdcofmpbmiloaaGreatDoor
/-
  The model's l2Last: an item is the one used last.
-/
namespace Go.Proofs.YtkdcofmpbmiloaaGreatDoor
namespace Rw
open Go.RowKit Base GoodKey Items Store Own
set_option linter.unusedVariables false

theorem Row.size {w : World} {B b n cap : Nat} {its : List Itm} (h : Row w B (.slice (some ⟨b, 0, none⟩) n cap) its) : n = its.length := by
  rcases h.2 with ⟨h', _⟩ | ⟨g', cap', cur, h', _⟩
  · simp at h'
  · simp only [Value.slice.injEq] at h'
    exact h'.2.1
theorem news1 {w : World} {b : Nat} {x : Itm} (h : w.heap[b]? = some (.cells #[.string x.key, .int .i64 x.flags, .string x.data, .int .i64 x.upto, .int .i64 x.token] 37 (0, 0))) (j : Nat) (u : Value) (hj : (flat [x])[j]? = some u) : w.cell? ((⟨b, 0, none⟩ : Addr).add j) = some u := by
  rw [flat_one] at hj
  exact World.news_of_block h j u hj
theorem blk {w w' : World} {B b : Nat} {o : Obj} (hb : Below B w w') (hlt : b < B) (h : w.heap[b]? = some o) : w'.heap[b]? = some o := (hb.block b hlt).trans h

theorem box3c (w : World) (t : TypeId) (v0 v1 v2 : Value) (B C : Obj) : (((w.alloc (.cells #[v0, v1, v2] t)).alloc B).alloc C).cell? ⟨w.heap.size, 2, none⟩ = some v2 := by
  rw [(bel2 (w.alloc (.cells #[v0, v1, v2] t)) B C).cell (p := ⟨w.heap.size, 2, none⟩) (by simp), World.cell?_alloc_new]
  rfl
theorem new4 (w : World) (a b c o : Obj) : ((((w.alloc a).alloc b).alloc c).alloc o).drew.heap[w.heap.size + 1 + 1 + 1]? = some o := by
  have h := heap_alloc_new (((w.alloc a).alloc b).alloc c) o
  simp only [World.size_alloc] at h
  exact h
set_option maxRecDepth 10000 in
set_option maxHeartbeats 4000000 in
theorem l2Last_row (lim nx : Int) (b cap B : Nat) (its : List Itm) (k : Nat) (x : Itm) (w : World) (hr : Row w B (.slice (some ⟨b, 0, none⟩) its.length cap) its) (hk : k < its.length) (hl : its.length ≤ 100) :
    Calls Tryz.prog 72 #[.agg #[.int .i64 lim, .int .i64 nx, .slice (some ⟨b, 0, none⟩) its.length cap], .int .i64 (k : Int), .agg #[.string x.key, .int .i64 x.flags, .string x.data, .int .i64 x.upto, .int .i64 x.token]] w fun e w' =>
      ∃ g cap', e = .returned (.agg #[.int .i64 lim, .int .i64 nx, .slice (some ⟨g, 0, none⟩) its.length cap']) ∧ Row w' w.heap.size (.slice (some ⟨g, 0, none⟩) its.length cap') (its.eraseIdx k ++ [x]) ∧ Below w.heap.size w w' := by
  obtain ⟨hlt, hBb, hcap⟩ := hr.lt
  have HWO := hide (fun w' (h : Row w' B (.slice (some ⟨b, 0, none⟩) its.length cap) its) => l2Without_row lim nx b cap B its k w' h hk hl)
  have HR := hide hr
  have hel : (its.eraseIdx k).length = its.length - 1 := List.length_eraseIdx_of_lt hk
  rw [hel] at HWO
  clear hr
  generalize its.eraseIdx k = er at HWO hel ⊢
  have hmm : its.length - 1 + 1 = its.length := by omega
  generalize hnn : its.length = n at *
  go_enter Tryz.func72, Tryz.ntmps72
  go_wp2
  go_region_law (first
    | (refine step_items _ (by rfl) (.tmp 9) (.tmp 11) (by rfl) (w.heap.size + 3) g1 cap1 (n - 1) er (by rfl) (unhide HROW1) hel.symm _ 1 1 [x] (by rfl) rfl (news1 (unhide HX1)) n hmm (by omega) (by omega) ?_; intro g2 cap2 w2 hrow2 hg2; have BW2 := (unhide HB1).grown hg2 (by first | omega | (simp; omega)) (fun k e => by simp at e; omega); have s0 := fun o => BW2.cell (p := ⟨w.heap.size, o, none⟩) (show w.heap.size < w.heap.size + 3 by omega); have sf0 := fun o => BW2.frozen (p := ⟨w.heap.size, o, none⟩) (show w.heap.size < w.heap.size + 3 by omega); have r0 := fun o => BW2.cell (p := ⟨w.heap.size + 1 + 1, o, none⟩) (show w.heap.size + 1 + 1 < w.heap.size + 3 by omega); have rf0 := fun o => BW2.frozen (p := ⟨w.heap.size + 1 + 1, o, none⟩) (show w.heap.size + 1 + 1 < w.heap.size + 3 by omega); have HROW2 := hide hrow2; have HB2 := hide ((bel3 w _ _ _).trans (BW2.mono (show w.heap.size ≤ w.heap.size + 3 by omega))); have z2 : w.heap.size + 3 ≤ w2.heap.size := by { have := BW2.size; simp at this; omega }; clear hrow2 hg2 BW2)
    | (refine step_items _ (by rfl) (.tmp 9) (.tmp 11) (by rfl) (w.heap.size + 3) g1 cap1 (n - 1) er (by rfl) ((unhide HROW1).below (bel1 w1 _) (Nat.le_refl _)) hel.symm _ 1 1 [x] (by rfl) rfl (news1 (heap_alloc_new w1 _)) n hmm (by omega) (by simp; omega) ?_; intro g2 cap2 w2 hrow2 hg2; have BW2 := ((unhide HB1).alloc (by omega) _).grown hg2 (by first | omega | (simp; omega)) (fun k e => by simp at e; omega); have s0 := fun o => BW2.cell (p := ⟨w.heap.size, o, none⟩) (show w.heap.size < w.heap.size + 3 by omega); have sf0 := fun o => BW2.frozen (p := ⟨w.heap.size, o, none⟩) (show w.heap.size < w.heap.size + 3 by omega); have r0 := fun o => BW2.cell (p := ⟨w.heap.size + 1 + 1, o, none⟩) (show w.heap.size + 1 + 1 < w.heap.size + 3 by omega); have rf0 := fun o => BW2.frozen (p := ⟨w.heap.size + 1 + 1, o, none⟩) (show w.heap.size + 1 + 1 < w.heap.size + 3 by omega); have HROW2 := hide hrow2; have HB2 := hide ((bel3 w _ _ _).trans (BW2.mono (show w.heap.size ≤ w.heap.size + 3 by omega))); have z2 : w.heap.size + 3 ≤ w2.heap.size := by { have := BW2.size; simp at this; omega }; clear hrow2 hg2 BW2)
    | (go_simp; go_at_call 85; (refine (unhide HWO _ (((unhide HR).below (bel3 w _ _ _) (Nat.le_refl _)).drew)).mono ?_; rintro e w1 ⟨g1, cap1, rfl, hrow1, hb1⟩; have z1 : w.heap.size + 3 ≤ w1.heap.size := by { have := hb1.size; simp at this; omega }; have hgb : w.heap.size + 3 ≤ g1 := by { have := hrow1.lt.2.1; simp at this; omega }; have HROW1 := hide (hrow1.le (show w.heap.size + 3 ≤ _ by simp)); have HB1 := hide ((Below.refl (w.heap.size + 3) _).drew.trans (hb1.mono (by simp))); have i1 := fun o => (unhide HB1).cell (p := ⟨w.heap.size + 1, o, none⟩) (show w.heap.size + 1 < w.heap.size + 3 by omega); clear hrow1 hb1))
    | (go_simp; go_at_call 85; (refine (unhide HWO _ (((unhide HR).below (bel3 w _ _ _) (Nat.le_refl _)).below (bel1 _ _) (Nat.le_refl _)).drew).mono ?_; rintro e w1 ⟨g1, cap1, rfl, hrow1, hb1⟩; have z1 : w.heap.size + 3 ≤ w1.heap.size := by { have := hb1.size; simp at this; omega }; have hgb : w.heap.size + 3 ≤ g1 := by { have := hrow1.lt.2.1; simp at this; omega }; have HROW1 := hide (hrow1.le (show w.heap.size + 3 ≤ _ by simp)); have HB1 := hide (((Below.refl (w.heap.size + 3) _).alloc (by simp) _).drew.trans (hb1.mono (by simp))); have HX1 := hide ((hb1.block (w.heap.size + 1 + 1 + 1) (by simp)).trans (new4 w _ _ _ _)); have i1 := fun o => (unhide HB1).cell (p := ⟨w.heap.size + 1, o, none⟩) (show w.heap.size + 1 < w.heap.size + 3 by omega); clear hrow1 hb1)))
  all_goals
    have z20 : w.heap.size < w2.heap.size := by omega
    have z22 : w.heap.size + 1 + 1 < w2.heap.size := by omega
    have s2 : w2.cell? ⟨w.heap.size, 2, none⟩ = some (.slice (some ⟨b, 0, none⟩) n cap) := (s0 2).trans (box3c w _ _ _ _ _ _)
    have t2 := fun v => World.cell?_setCell_same' w2 ⟨w.heap.size, 2, none⟩ v (by rw [s2]; rfl)
    go_wp2
    change bodyPost Tryz.prog Tryz.f72 (fun e w' => ∃ g cap', e = .returned (.agg #[.int .i64 lim, .int .i64 nx, .slice (some ⟨g, 0, none⟩) n cap']) ∧ Row w' w.heap.size (.slice (some ⟨g, 0, none⟩) n cap') (er ++ [x]) ∧ Below w.heap.size w w') _ _ _
    refine bodyPost_ret (v := .agg #[.int .i64 lim, .int .i64 nx, .slice (some ⟨g2, 0, none⟩) n cap2]) (by simp [results, Tryz.results72, go_sem, r0]; done) rfl ⟨g2, cap2, rfl, ?_, ?_⟩
    · refine Row.le (B := w.heap.size + 3) ?_ (by omega)
      repeat (refine ownsRow_setCell_below ?_ (by first | (simp; done) | (simp; omega)) _)
      exact unhide HROW2
    · repeat (refine Below.setCell ?_ (by first | (simp; done) | (simp; omega)) _)
      exact unhide HB2
end Rw
end Go.Proofs.YtkdcofmpbmiloaaGreatDoor
/-
  Appends of what may be nothing to rows of items: a law of append. No Go function is spoken of here.
-/
namespace Go.Proofs.YtkdcofmpbmiloaaGreatDoor
namespace Rw
open Go.RowKit Base GoodKey Items Store Own
set_option linter.unusedVariables false

/-- What is appended: a part of memory, or nothing. -/
def Src (w : World) (src : Option Addr) (m c : Nat) (news : List Itm) : Prop := (src = none ∧ m = 0 ∧ c = 0 ∧ news = []) ∨ ∃ ad, src = some ad ∧ news.length = m ∧ ∀ j u, (flat news)[j]? = some u → w.cell? (ad.add j) = some u
theorem grown_refl (w : World) (r : Option Nat) : w.grownBy w r := ⟨rfl, rfl, rfl, Nat.le_refl _, fun _ _ _ => rfl⟩
section
variable {ops : Array Oper} {o : Oper} {a : Act} {K : Act → World → Prop} {Q : Exit → Act → World → Prop} {E : Prop}
theorem wp_append_none {P : Program} {w : World} (s x : Operand) (t : TypeId) (ho : o.op = .call { callee := .builtin .append, args := #[s, x], argTypes := #[t, t] }) (base : Nat) (e : TypeId) (i : TypeInfo) (size : Nat) (ht : P.underlying t = some (.slice e)) (hi : P.info? e = some i)
    (v : Value) (n : Nat) (xs : List Value) (hs : a.eval s = v) (hown : w.ownsRow base e size v n xs) (hx : a.eval x = .slice none 0 0) (h : K (a.put o.dst v) w) : Oper.wp P o a w K Q := by
  have hrun := run_append_owned_none (P := P) (w := w) base t o.type e i size ht hi v n xs hown
  unfold Oper.wp execOp
  simp only [ho, resolve, invoke, builtin, Sem.run_bind, Sem.run_pure, Result.andThen_ok, List.map_toArray, List.map_cons, List.map_nil, hs, hx, hrun]
  exact h
theorem step_src (w : World) (hgd : o.guard = none) (s x : Operand) (ho : o.op = .call { callee := .builtin .append, args := #[s, x], argTypes := #[23, 23] }) (B g0 c0 n : Nat) (its : List Itm) (hs : a.eval s = .slice (some ⟨g0, 0, none⟩) n c0) (hrow : Row w B (.slice (some ⟨g0, 0, none⟩) n c0) its) (hn : n = its.length)
    (src : Option Addr) (m c : Nat) (news : List Itm) (hx : a.eval x = .slice src m c) (hsrc : Src w src m c news) (r : Nat) (hr : n + m = r) (hl : r ≤ 1000) (hB : B ≤ w.heap.size)
    (h : ∀ g cap w', Row w' B (.slice (some ⟨g, 0, none⟩) r cap) (its ++ news) → w.grownBy w' (some g0) → K (a.put o.dst (.slice (some ⟨g, 0, none⟩) r cap)) w') :
    if Region.wanted o (yielded ops a.tmps) = true then Oper.wp Tryz.prog o a w K Q else E := by
  rcases hsrc with ⟨rfl, rfl, rfl, rfl⟩ | ⟨ad, rfl, hm, hnews⟩
  · obtain ⟨i0, hi, hz0, hz1, hz2⟩ := info_ex
    have hw : Region.wanted o (yielded ops a.tmps) = true := by simp [Region.wanted, hgd]
    rw [if_pos hw]
    have hk := h g0 c0 w (by rw [List.append_nil, ← hr, Nat.add_zero]; exact hrow) (grown_refl w _)
    rw [← hr, Nat.add_zero] at hk
    exact wp_append_none s x 23 ho B 37 i0 5 Tryz.underlying23 hi _ _ _ hs hrow hx hk
  · exact step_items w hgd s x ho B g0 c0 n its hs hrow hn ad m c news hx hm hnews r hr hl hB h
end
theorem Row.src {w : World} {B : Nat} {a : Option Addr} {n cap : Nat} {its : List Itm} (h : Row w B (.slice a n cap) its) : Src w a n cap its := by
  rcases h.form with ⟨hv, rfl⟩ | ⟨b, c, hv⟩
  · simp only [Value.slice.injEq] at hv
    exact .inl ⟨hv.1, hv.2.1, hv.2.2, rfl⟩
  · simp only [Value.slice.injEq] at hv
    obtain ⟨rfl, rfl, rfl⟩ := hv
    refine .inr ⟨_, rfl, rfl, fun j u hj => ?_⟩
    exact h.news_take rfl its.length (Nat.le_refl _) j u (by rw [List.take_length]; exact hj)
theorem new2 (w : World) (a o : Obj) : ((w.alloc a).alloc o).drew.heap[w.heap.size + 1]? = some o := by
  have h := heap_alloc_new (w.alloc a) o
  rw [World.size_alloc] at h
  exact h
theorem new2' (w : World) (o b : Obj) : ((w.alloc o).alloc b).drew.heap[w.heap.size]? = some o :=
  ((bel1 (w.alloc o) b).block w.heap.size (by simp)).trans (heap_alloc_new w o)
end Rw
end Go.Proofs.YtkdcofmpbmiloaaGreatDoor
