/-
  Links as they lie in memory: seven cells each, one behind the other; a row of whole numbers. No Go function is spoken of here.
-/
import Derived.Test.YthlcmnjaimffdaaChainP
import Derived.Test.YthlcmnjaimffdaaKeep
namespace Go.Proofs.Ythlcmnjaimffdaa
namespace Chain
open Go.RowKit Base Items Keep
set_option linter.unusedVariables false

theorem row_set {w : World} {e : TypeId} {size g n cap : Nat} {xs : List Value} (h : Row w e size g n cap xs) {j : Nat} (hj : j < n * size) (u : Value) : Row (w.setCell ⟨g, j, none⟩ u) e size g n cap (xs.set j u) := by
  obtain ⟨h1, cur, hh, h2, h3, h4, h5⟩ := h
  refine ⟨by simp [h1], cur.setIfInBounds j u, ?_, h2, h3, by simp [h4], ?_⟩
  · simp [World.setCell, Array.getElem?_modify, hh]
  · rw [Array.toList_setIfInBounds, ← h5, List.take_set]
theorem row_pop {w : World} {e : TypeId} {g n cap : Nat} {xs : List Value} (h : Row w e 1 g (n + 1) cap xs) : Row w e 1 g n cap (xs.take n) := by
  obtain ⟨h1, cur, hh, h2, h3, h4, h5⟩ := h
  refine ⟨by simp [h1], cur, hh, by omega, h3, h4, ?_⟩
  rw [← h5, List.take_take]
  congr 1
  omega

def lcells (x : Lnk) : List Value := [.string x.val.key, .int .i64 x.val.flags, .string x.val.data, .int .i64 x.val.upto, .int .i64 x.val.token, .int .i64 x.ahead, .int .i64 x.behind]
def lflat (ls : List Lnk) : List Value := ls.flatMap lcells
theorem lflat_append (a b : List Lnk) : lflat (a ++ b) = lflat a ++ lflat b := by simp [lflat]
theorem lflat_one (x : Lnk) : lflat [x] = lcells x := by simp [lflat]
theorem lflat_length (ls : List Lnk) : (lflat ls).length = ls.length * 7 := by
  induction ls with
  | nil => rfl
  | cons x r ih =>
    have e : lflat (x :: r) = lcells x ++ lflat r := by simp [lflat]
    rw [e, List.length_append, ih]
    simp [lcells]; omega
theorem lflat_get (ls : List Lnk) (p : Nat) (hp : p < ls.length) (i : Nat) (hi : i < 7) : (lflat ls)[p * 7 + i]? = (lcells (lk ls p))[i]? := by
  induction ls generalizing p with
  | nil => simp at hp
  | cons x r ih =>
    have e : lflat (x :: r) = lcells x ++ lflat r := by simp [lflat]
    have el : (lcells x).length = 7 := rfl
    rw [e]
    cases p with
    | zero => rw [List.getElem?_append_left (by rw [el]; omega)]; simp [lk]
    | succ q =>
      rw [List.getElem?_append_right (by rw [el]; omega), el, show (q + 1) * 7 + i - 7 = q * 7 + i by omega, ih q (by simpa using hp)]
      simp [lk]
theorem lflat_set (ls : List Lnk) (p : Nat) (hp : p < ls.length) (i : Nat) (hi : i < 7) (v : Value) (x : Lnk) (hx : lcells x = (lcells (lk ls p)).set i v) : (lflat ls).set (p * 7 + i) v = lflat (ls.set p x) := by
  induction ls generalizing p with
  | nil => simp at hp
  | cons y r ih =>
    have e : ∀ z q, lflat (z :: q) = lcells z ++ lflat q := by simp [lflat]
    have el : (lcells y).length = 7 := rfl
    cases p with
    | zero =>
      simp only [lk, List.getD_cons_zero] at hx
      rw [e, List.set_append, if_pos (by rw [el]; omega), List.set_cons_zero, e, hx]
      simp
    | succ q =>
      simp only [lk, List.getD_cons_succ] at hx
      rw [e, List.set_append, if_neg (by rw [el]; omega), el, show (q + 1) * 7 + i - 7 = q * 7 + i by omega, ih q (by simpa using hp) hx, List.set_cons_succ, e]
theorem lcells_one (x : Lnk) (u : Value) (hu : u ∈ lcells x) : u.oneCell' = true := by
  simp only [lcells, List.mem_cons, List.not_mem_nil, or_false] at hu
  rcases hu with rfl | rfl | rfl | rfl | rfl | rfl | rfl <;> rfl

/-- A row of links. -/
def LinksAt (w : World) (t : TypeId) (g cap : Nat) (ls : List Lnk) : Prop := Row w t 7 g ls.length cap (lflat ls)
section
variable {w w' : World} {t : TypeId} {g cap : Nat} {ls : List Lnk}
theorem LinksAt.cell (h : LinksAt w t g cap ls) {p : Nat} (hp : p < ls.length) {i : Nat} (hi : i < 7) : w.cell? ⟨g, p * 7 + i, none⟩ = (lcells (lk ls p))[i]? := by
  have hg := lflat_get ls p hp i hi
  obtain ⟨u, hu⟩ : ∃ u, (lcells (lk ls p))[i]? = some u := ⟨_, List.getElem?_eq_getElem (by simpa [lcells] using hi)⟩
  rw [hu] at hg ⊢
  exact Row.cell h hg
theorem LinksAt.item (h : LinksAt w t g cap ls) {p : Nat} (hp : p < ls.length) : At w g (p * 7) (lk ls p).val :=
  ⟨h.cell hp (i := 0) (by omega), h.cell hp (i := 1) (by omega), h.cell hp (i := 2) (by omega), h.cell hp (i := 3) (by omega), h.cell hp (i := 4) (by omega)⟩
theorem LinksAt.ahead (h : LinksAt w t g cap ls) {p : Nat} (hp : p < ls.length) : w.cell? ⟨g, p * 7 + 5, none⟩ = some (.int .i64 (lk ls p).ahead) := h.cell hp (i := 5) (by omega)
theorem LinksAt.behind (h : LinksAt w t g cap ls) {p : Nat} (hp : p < ls.length) : w.cell? ⟨g, p * 7 + 6, none⟩ = some (.int .i64 (lk ls p).behind) := h.cell hp (i := 6) (by omega)
theorem LinksAt.setAhead (h : LinksAt w t g cap ls) {p : Nat} (hp : p < ls.length) (n : Nat) : LinksAt (w.setCell ⟨g, p * 7 + 5, none⟩ (.int .i64 n)) t g cap (ls.set p { lk ls p with ahead := n }) := by
  have h1 := row_set h (j := p * 7 + 5) (by omega) (.int .i64 n)
  rw [lflat_set ls p hp 5 (by omega) (.int .i64 n) { lk ls p with ahead := n } rfl] at h1
  unfold LinksAt
  rw [List.length_set]
  exact h1
theorem LinksAt.setBehind (h : LinksAt w t g cap ls) {p : Nat} (hp : p < ls.length) (n : Nat) : LinksAt (w.setCell ⟨g, p * 7 + 6, none⟩ (.int .i64 n)) t g cap (ls.set p { lk ls p with behind := n }) := by
  have h1 := row_set h (j := p * 7 + 6) (by omega) (.int .i64 n)
  rw [lflat_set ls p hp 6 (by omega) (.int .i64 n) { lk ls p with behind := n } rfl] at h1
  unfold LinksAt
  rw [List.length_set]
  exact h1
/-- A whole link is laid, cell by cell. -/
theorem LinksAt.setAll (h : LinksAt w t g cap ls) {p : Nat} (hp : p < ls.length) (x : Lnk) :
    LinksAt (((((((w.setCell ⟨g, p * 7, none⟩ (.string x.val.key)).setCell ⟨g, p * 7 + 1, none⟩ (.int .i64 x.val.flags)).setCell ⟨g, p * 7 + 2, none⟩ (.string x.val.data)).setCell ⟨g, p * 7 + 3, none⟩ (.int .i64 x.val.upto)).setCell ⟨g, p * 7 + 4, none⟩ (.int .i64 x.val.token)).setCell ⟨g, p * 7 + 5, none⟩ (.int .i64 x.ahead)).setCell ⟨g, p * 7 + 6, none⟩ (.int .i64 x.behind)) t g cap (ls.set p x) := by
  have h0 := row_set h (j := p * 7) (by omega) (.string x.val.key)
  have h1 := row_set h0 (j := p * 7 + 1) (by omega) (.int .i64 x.val.flags)
  have h2 := row_set h1 (j := p * 7 + 2) (by omega) (.string x.val.data)
  have h3 := row_set h2 (j := p * 7 + 3) (by omega) (.int .i64 x.val.upto)
  have h4 := row_set h3 (j := p * 7 + 4) (by omega) (.int .i64 x.val.token)
  have h5 := row_set h4 (j := p * 7 + 5) (by omega) (.int .i64 x.ahead)
  have h6 := row_set h5 (j := p * 7 + 6) (by omega) (.int .i64 x.behind)
  have e0 := lflat_set ls p hp 0 (by omega) (.string x.val.key) ⟨⟨x.val.key, (lk ls p).val.flags, (lk ls p).val.data, (lk ls p).val.upto, (lk ls p).val.token⟩, (lk ls p).ahead, (lk ls p).behind⟩ rfl
  rw [Nat.add_zero] at e0
  have step : ∀ (y z : Lnk) (i : Nat) (v : Value), i < 7 → lcells z = (lcells y).set i v → (lflat (ls.set p y)).set (p * 7 + i) v = lflat (ls.set p z) := by
    intro y z i v hi hz
    rw [lflat_set (ls.set p y) p (by simpa using hp) i hi v z (by rw [lk_set _ _ _ _ hp, if_pos rfl]; exact hz), List.set_set]
  have s1 := step ⟨⟨x.val.key, (lk ls p).val.flags, (lk ls p).val.data, (lk ls p).val.upto, (lk ls p).val.token⟩, (lk ls p).ahead, (lk ls p).behind⟩ ⟨⟨x.val.key, x.val.flags, (lk ls p).val.data, (lk ls p).val.upto, (lk ls p).val.token⟩, (lk ls p).ahead, (lk ls p).behind⟩ 1 (.int .i64 x.val.flags) (by omega) rfl
  have s2 := step ⟨⟨x.val.key, x.val.flags, (lk ls p).val.data, (lk ls p).val.upto, (lk ls p).val.token⟩, (lk ls p).ahead, (lk ls p).behind⟩ ⟨⟨x.val.key, x.val.flags, x.val.data, (lk ls p).val.upto, (lk ls p).val.token⟩, (lk ls p).ahead, (lk ls p).behind⟩ 2 (.string x.val.data) (by omega) rfl
  have s3 := step ⟨⟨x.val.key, x.val.flags, x.val.data, (lk ls p).val.upto, (lk ls p).val.token⟩, (lk ls p).ahead, (lk ls p).behind⟩ ⟨⟨x.val.key, x.val.flags, x.val.data, x.val.upto, (lk ls p).val.token⟩, (lk ls p).ahead, (lk ls p).behind⟩ 3 (.int .i64 x.val.upto) (by omega) rfl
  have s4 := step ⟨⟨x.val.key, x.val.flags, x.val.data, x.val.upto, (lk ls p).val.token⟩, (lk ls p).ahead, (lk ls p).behind⟩ ⟨⟨x.val.key, x.val.flags, x.val.data, x.val.upto, x.val.token⟩, (lk ls p).ahead, (lk ls p).behind⟩ 4 (.int .i64 x.val.token) (by omega) rfl
  have s5 := step ⟨⟨x.val.key, x.val.flags, x.val.data, x.val.upto, x.val.token⟩, (lk ls p).ahead, (lk ls p).behind⟩ ⟨⟨x.val.key, x.val.flags, x.val.data, x.val.upto, x.val.token⟩, x.ahead, (lk ls p).behind⟩ 5 (.int .i64 x.ahead) (by omega) rfl
  have s6 := step ⟨⟨x.val.key, x.val.flags, x.val.data, x.val.upto, x.val.token⟩, x.ahead, (lk ls p).behind⟩ x 6 (.int .i64 x.behind) (by omega) rfl
  rw [e0, s1, s2, s3, s4, s5, s6] at h6
  unfold LinksAt
  rw [List.length_set]
  exact h6
end

/-- A row of whole numbers, or nothing yet. -/
def ints (l : List Nat) : List Value := l.map (fun p : Nat => .int .i64 (p : Int))
end Chain
end Go.Proofs.Ythlcmnjaimffdaa
