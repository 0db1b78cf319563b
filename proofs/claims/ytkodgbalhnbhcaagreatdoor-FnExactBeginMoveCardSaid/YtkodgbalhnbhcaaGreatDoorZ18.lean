/-
  Forgetting and storing, as plain functions of the items. No Go function is spoken of here.
-/
import Derived.Test.YtkodgbalhnbhcaaGreatDoorZ5
import Derived.Test.YtkodgbalhnbhcaaGreatDoorZ6
import Derived.Deep.RegionHeld3
import Derived.Deep.AppendLies
import Derived.Laws.OwnMore
import Derived.Deep.RegionWith
import Derived.Outline
import Derived.Test.YtkodgbalhnbhcaaGreatDoorZ9
import Derived.Test.YtkodgbalhnbhcaaGreatDoorZ4
import Derived.Deep.DeepCutAuto
import Derived.Lib.QuietBelow
import Derived.BigQuiet
import Derived.Deep.QuietTactic
import Derived.Laws.AppendOwn
import Derived.Lib.AppendZeros
import Derived.Test.YtkodgbalhnbhcaaGreatDoorZ10
namespace Go.Proofs.YtkodgbalhnbhcaaGreatDoor
namespace Store
open Go.RowKit Base GoodKey Items
set_option linter.unusedVariables false

/-- There is room. -/
def fitsB (lim : Int) (l : List Itm) : Bool := decide (total l ≤ lim) && decide ((l.length : Int) ≤ 60)
/-- How many are forgotten. -/
def trimN (lim : Int) : List Itm → Nat
  | [] => 0
  | x :: r => if fitsB lim (x :: r) = true then 0 else trimN lim r + 1
theorem trimN_le (lim : Int) : ∀ l : List Itm, trimN lim l ≤ l.length
  | [] => Nat.le_refl _
  | x :: r => by
    rw [trimN]
    split
    · omega
    · have := trimN_le lim r; simp; omega
theorem trimN_fit {lim : Int} {l : List Itm} (h : fitsB lim l = true) : trimN lim l = 0 := by
  cases l with
  | nil => rfl
  | cons x r => rw [trimN, if_pos h]
theorem trimN_step {lim : Int} {its : List Itm} {k : Nat} (hk : k < its.length) (h : fitsB lim (its.drop k) = false) : trimN lim (its.drop k) = trimN lim (its.drop (k + 1)) + 1 := by
  rw [List.drop_eq_getElem_cons hk] at h ⊢
  rw [trimN, if_neg (by rw [h]; simp)]
/-- The items without the one with a key. -/
def without (its : List Itm) (key : ByteArray) : List Itm := match atN its key with | some k => its.eraseIdx k | none => its
/-- What is stored: the items and how many were forgotten; nothing where it can't be stored. -/
def putR (lim nx : Int) (its : List Itm) (x : Itm) : Option (List Itm × Nat) :=
  if lim < charge x ∨ nx = 1000000000 then none
  else some ((without its x.key ++ [{ x with token := nx }]).drop (trimN lim (without its x.key ++ [{ x with token := nx }])), trimN lim (without its x.key ++ [{ x with token := nx }]))
end Store
end Go.Proofs.YtkodgbalhnbhcaaGreatDoor
/-
  Rows of items that a call has made itself, and appends to them; the model's l2Without and l2Last.
-/
namespace Go.Proofs.YtkodgbalhnbhcaaGreatDoor
namespace Rw
open Go.RowKit Base GoodKey Items Store Own
set_option linter.unusedVariables false

def Row (w : World) (B : Nat) (v : Value) (its : List Itm) : Prop := w.ownsRow B 85 5 v its.length (flat its)
theorem Row.below {w w' : World} {B C : Nat} {v : Value} {its : List Itm} (h : Row w B v its) (hb : Below C w w') (hC : w.heap.size ≤ C) : Row w' B v its := own_below h hb hC
theorem Row.le {w : World} {B C : Nat} {v : Value} {its : List Itm} (h : Row w B v its) (hC : C ≤ B) : Row w C v its := own_le h hC
theorem Row.drew {w : World} {B : Nat} {v : Value} {its : List Itm} (h : Row w B v its) : Row w.drew B v its := own_below h (Below.refl w.heap.size w).drew (Nat.le_refl _)
theorem Row.cells {w : World} {B b n cap : Nat} {its : List Itm} (h : Row w B (.slice (some ⟨b, 0, none⟩) n cap) its) (hn : n = its.length) (j : Nat) (hj : j < its.length * 5) : w.cell? ⟨b, j, none⟩ = (flat its)[j]? := by
  subst hn
  exact World.ownsRow.cellAt h j hj
theorem Row.lt {w : World} {B b n cap : Nat} {its : List Itm} (h : Row w B (.slice (some ⟨b, 0, none⟩) n cap) its) : b < w.heap.size ∧ B ≤ b ∧ its.length ≤ cap := by
  rcases h.2 with ⟨h', _⟩ | ⟨g', cap', cur, h', hB, hg, hc, _, _, _⟩
  · simp at h'
  · simp only [Value.slice.injEq, Option.some.injEq, Addr.mk.injEq, and_true] at h'
    obtain ⟨rfl, h2, rfl⟩ := h'
    exact ⟨(Array.getElem?_eq_some_iff.1 hg).1, hB, hc⟩
theorem Row.at {w : World} {B b n cap : Nat} {its : List Itm} (h : Row w B (.slice (some ⟨b, 0, none⟩) n cap) its) (hn : n = its.length) (i : Nat) (hi : i < its.length) : At w b (0 + i * 5) (its.getD i zero) := by
  have hc := fun j hj => h.cells hn j hj
  rw [Nat.zero_add]
  refine ⟨?_, ?_, ?_, ?_, ?_⟩
  · rw [hc _ (by omega), flat_get _ _ (by omega), icell, show (i * 5) % 5 = 0 by omega, show (i * 5) / 5 = i by omega]; simp
  · rw [hc _ (by omega), flat_get _ _ (by omega), icell, show (i * 5 + 1) % 5 = 1 by omega, show (i * 5 + 1) / 5 = i by omega]; simp
  · rw [hc _ (by omega), flat_get _ _ (by omega), icell, show (i * 5 + 2) % 5 = 2 by omega, show (i * 5 + 2) / 5 = i by omega]; simp
  · rw [hc _ (by omega), flat_get _ _ (by omega), icell, show (i * 5 + 3) % 5 = 3 by omega, show (i * 5 + 3) / 5 = i by omega]; simp
  · rw [hc _ (by omega), flat_get _ _ (by omega), icell, show (i * 5 + 4) % 5 = 4 by omega, show (i * 5 + 4) / 5 = i by omega]; simp
/-- A row is nothing at all, or it has a head of its own. -/
theorem Row.form {w : World} {B : Nat} {v : Value} {its : List Itm} (h : Row w B v its) : (v = .slice none 0 0 ∧ its = []) ∨ ∃ b cap, v = .slice (some ⟨b, 0, none⟩) its.length cap := by
  rcases h.2 with ⟨h', h0⟩ | ⟨g', cap', cur, h', _⟩
  · exact .inl ⟨h', List.eq_nil_of_length_eq_zero h0⟩
  · exact .inr ⟨g', cap', h'⟩
theorem Row.has {w : World} {B : Nat} {v : Value} {its : List Itm} (h : Row w B v its) (hne : 0 < its.length) : ∃ b cap, v = .slice (some ⟨b, 0, none⟩) its.length cap := by
  rcases h.form with ⟨_, rfl⟩ | h
  · simp at hne
  · exact h

theorem flat_take (its : List Itm) (k : Nat) (hk : k ≤ its.length) : flat (its.take k) = (flat its).take (k * 5) := by
  have h1 : flat its = flat (its.take k) ++ flat (its.drop k) := by rw [← flat_append, List.take_append_drop]
  have h2 : (flat (its.take k)).length = k * 5 := by rw [flat_length, List.length_take]; omega
  rw [h1, ← h2, List.take_left]
theorem flat_drop (its : List Itm) (k : Nat) (hk : k ≤ its.length) : flat (its.drop k) = (flat its).drop (k * 5) := by
  have h1 : flat its = flat (its.take k) ++ flat (its.drop k) := by rw [← flat_append, List.take_append_drop]
  have h2 : (flat (its.take k)).length = k * 5 := by rw [flat_length, List.length_take]; omega
  rw [h1, ← h2, List.drop_left]
/-- The cells of a part of a row. -/
theorem Row.news_take {w : World} {B b n cap : Nat} {its : List Itm} (h : Row w B (.slice (some ⟨b, 0, none⟩) n cap) its) (hn : n = its.length) (k : Nat) (hk : k ≤ its.length) (j : Nat) (u : Value) (hj : (flat (its.take k))[j]? = some u) : w.cell? ((⟨b, 0, none⟩ : Addr).add j) = some u := by
  rw [Go.WideShapes.add_plain, Nat.zero_add]
  rw [flat_take its k hk, List.getElem?_take] at hj
  split at hj
  · rename_i hlt
    rw [h.cells hn j (by omega)]; exact hj
  · simp at hj
theorem Row.news_drop {w : World} {B b n cap : Nat} {its : List Itm} (h : Row w B (.slice (some ⟨b, 0, none⟩) n cap) its) (hn : n = its.length) (k : Nat) (hk : k ≤ its.length) (j : Nat) (u : Value) (hj : (flat (its.drop k))[j]? = some u) : w.cell? ((⟨b, k * 5, none⟩ : Addr).add j) = some u := by
  rw [Go.WideShapes.add_plain]
  rw [flat_drop its k hk, List.getElem?_drop] at hj
  have hl : k * 5 + j < (flat its).length := by
    rcases Nat.lt_or_ge (k * 5 + j) (flat its).length with h1 | h1
    · exact h1
    · rw [List.getElem?_eq_none h1] at hj; simp at hj
  rw [flat_length] at hl
  rw [h.cells hn _ hl]; exact hj
theorem flat_one' (its : List Itm) : ∀ u ∈ flat its, u.oneCell' = true := by
  intro u hu
  obtain ⟨x, _, hx⟩ := List.mem_flatMap.1 hu
  exact news_one x u hx

theorem row_empty (w : World) {B : Nat} (hB : B ≤ w.heap.size) : Row (w.alloc (.cells #[] 85)) B (.slice (some ⟨w.heap.size, 0, none⟩) 0 0) [] :=
  World.ownsRow_lit (e := 85) (size := 5) w #[] 0 hB (by decide) rfl
section
variable {ops : Array Oper} {o : Oper} {a : Act} {K : Act → World → Prop} {Q : Exit → Act → World → Prop} {E : Prop}
theorem append_post {w' : World} {B g0 c0 n m : Nat} {its news : List Itm} {v' : Value} (hn : n = its.length) (hm : news.length = m) (h2 : w'.ownsRow B 85 5 v' (its.length + m) (flat its ++ flat news)) (h4 : v' = .slice none 0 0 ↔ (Value.slice (some ⟨g0, 0, none⟩) n c0) = .slice none 0 0 ∧ m = 0) :
    ∃ g cap, v' = .slice (some ⟨g, 0, none⟩) (its.length + m) cap ∧ Row w' B (.slice (some ⟨g, 0, none⟩) (its.length + m) cap) (its ++ news) := by
  have e : its.length + m = (its ++ news).length := by rw [List.length_append, hm]
  rw [e, ← flat_append] at h2
  rcases Row.form (its := its ++ news) h2 with ⟨hv, _⟩ | ⟨g, cap, hv⟩
  · have := (h4.1 hv).1
    simp at this
  · subst hv
    rw [← e] at h2 ⊢
    refine ⟨g, cap, rfl, ?_⟩
    unfold Row
    rw [← e]
    exact h2
theorem wp_items (w : World) (s x : Operand) (ho : o.op = .call { callee := .builtin .append, args := #[s, x], argTypes := #[55, 55] }) (B g0 c0 n : Nat) (its : List Itm) (hs : a.eval s = .slice (some ⟨g0, 0, none⟩) n c0) (hrow : Row w B (.slice (some ⟨g0, 0, none⟩) n c0) its) (hn : n = its.length)
    (ad : Addr) (m c : Nat) (news : List Itm) (hx : a.eval x = .slice (some ad) m c) (hm : news.length = m) (hnews : ∀ j u, (flat news)[j]? = some u → w.cell? (ad.add j) = some u) (r : Nat) (hr : n + m = r) (hl : r ≤ 1000) (hB : B ≤ w.heap.size)
    (h : ∀ g cap w', Row w' B (.slice (some ⟨g, 0, none⟩) r cap) (its ++ news) → w.grownBy w' (some g0) → K (a.put o.dst (.slice (some ⟨g, 0, none⟩) r cap)) w') : Oper.wp Tryz.prog o a w K Q := by
  obtain ⟨i0, hi, hz0, hz1, hz2⟩ := info_ex
  subst hn
  subst hr
  refine wp_append_own w s x 55 ho B 85 i0 _ 5 56 Tryz.underlying55 hi hz0 hz1 hz2 rfl (by decide) _ _ _ hs hrow ad m c (flat news) hx (by rw [flat_length, hm]) hnews (flat_one' news) (by unfold maxLen; omega) (by omega) hB ?_
  intro v' w' h2 h3 h4
  obtain ⟨g, cap, rfl, hr⟩ := append_post rfl hm h2 h4
  exact h g cap w' hr h3
theorem step_items (w : World) (hgd : o.guard = none) (s x : Operand) (ho : o.op = .call { callee := .builtin .append, args := #[s, x], argTypes := #[55, 55] }) (B g0 c0 n : Nat) (its : List Itm) (hs : a.eval s = .slice (some ⟨g0, 0, none⟩) n c0) (hrow : Row w B (.slice (some ⟨g0, 0, none⟩) n c0) its) (hn : n = its.length)
    (ad : Addr) (m c : Nat) (news : List Itm) (hx : a.eval x = .slice (some ad) m c) (hm : news.length = m) (hnews : ∀ j u, (flat news)[j]? = some u → w.cell? (ad.add j) = some u) (r : Nat) (hr : n + m = r) (hl : r ≤ 1000) (hB : B ≤ w.heap.size)
    (h : ∀ g cap w', Row w' B (.slice (some ⟨g, 0, none⟩) r cap) (its ++ news) → w.grownBy w' (some g0) → K (a.put o.dst (.slice (some ⟨g, 0, none⟩) r cap)) w') :
    if Region.wanted o (yielded ops a.tmps) = true then Oper.wp Tryz.prog o a w K Q else E := by
  have hw : Region.wanted o (yielded ops a.tmps) = true := by simp [Region.wanted, hgd]
  rw [if_pos hw]
  exact wp_items w s x ho B g0 c0 n its hs hrow hn ad m c news hx hm hnews r hr hl hB h
theorem list_items {rest : List Oper} (w : World) (hgd : o.guard = none) (s x : Operand) (ho : o.op = .call { callee := .builtin .append, args := #[s, x], argTypes := #[55, 55] }) (B g0 c0 n : Nat) (its : List Itm) (hs : a.eval s = .slice (some ⟨g0, 0, none⟩) n c0) (hrow : Row w B (.slice (some ⟨g0, 0, none⟩) n c0) its) (hn : n = its.length)
    (ad : Addr) (m c : Nat) (news : List Itm) (hx : a.eval x = .slice (some ad) m c) (hm : news.length = m) (hnews : ∀ j u, (flat news)[j]? = some u → w.cell? (ad.add j) = some u) (r : Nat) (hr : n + m = r) (hl : r ≤ 1000) (hB : B ≤ w.heap.size)
    (h : ∀ g cap w', Row w' B (.slice (some ⟨g, 0, none⟩) r cap) (its ++ news) → w.grownBy w' (some g0) → wpList Tryz.prog ops Q rest (a.put o.dst (.slice (some ⟨g, 0, none⟩) r cap)) w') : wpList Tryz.prog ops Q (o :: rest) a w :=
  wpList_plain hgd fun _ hK => wp_items w s x ho B g0 c0 n its hs hrow hn ad m c news hx hm hnews r hr hl hB fun g cap w' h2 h3 => hK _ _ (h g cap w' h2 h3)
end
end Rw
end Go.Proofs.YtkodgbalhnbhcaaGreatDoor
/-
  The model's l7Places: fresh places for the nodes of two slices, rising by name, each once.
-/
namespace Go.Proofs.YtkodgbalhnbhcaaGreatDoor
namespace Plc
open Go.RowKit Base Marks
set_option linter.unusedVariables false

theorem info_ex : ∃ i, Tryz.prog.info? 59 = some i ∧ i.zero = some (.agg #[.string ByteArray.empty, .int .i64 0, .int .i64 0, .slice none 0 0]) ∧ i.size = 4 ∧ i.bytes = 56 := by
  have h : (Tryz.prog.info? 59).map (fun i => (i.zero, i.size, i.bytes)) = some (some (.agg #[.string ByteArray.empty, .int .i64 0, .int .i64 0, .slice none 0 0]), 4, 56) := by kernel_rfl
  obtain ⟨i, hi, hz⟩ := Option.map_eq_some_iff.1 h
  simp only [Prod.mk.injEq] at hz
  exact ⟨i, hi, hz.1, hz.2.1, hz.2.2⟩

set_option maxRecDepth 100000 in
set_option maxHeartbeats 4000000 in
theorem places_any (A : Nat → Option Addr) (C : Nat → Nat) (N : Nat → List Nodes.D) (lim : Int) (w : World) (hat : ∀ i, i < 2 → Nodes.LAt w (A i) (N i)) (hl : ∀ i, i < 2 → (N i).length ≤ 1048576) :
    Calls Tryz.prog 57 #[.slice (A 0) (N 0).length (C 0), .slice (A 1) (N 1).length (C 1), .int .i64 lim] w fun e w' => ∃ v, e = .returned v ∧ w'.ownsRow w.heap.size 59 4 v (insAll (pre N 2)).length (flat lim (insAll (pre N 2))) ∧ Below w.heap.size w w' := by
  obtain ⟨i0, hi0, hz0, hz1, hz2⟩ := info_ex
  have HI := hide hi0
  have HZ0 := hide hz0
  have HZ1 := hide hz1
  have HZ2 := hide hz2
  have HAT := hide hat
  have HL := hide hl
  clear hi0 hz0 hz1 hz2 hat hl
  obtain ⟨k0, k1⟩ := box2 w 27 (.slice (A 0) (N 0).length (C 0)) (.slice (A 1) (N 1).length (C 1))
  have HCE : Hid (∀ i, i < 2 → (w.alloc (.cells #[.slice (A 0) (N 0).length (C 0), .slice (A 1) (N 1).length (C 1)] 27)).cell? ⟨w.heap.size, i, none⟩ = some (.slice (A i) (N i).length (C i))) := fun i hi => by
    obtain rfl | rfl : i = 0 ∨ i = 1 := by omega
    · exact k0
    · exact k1
  clear k0 k1
  have B0 := hide (bel1 w (.cells #[.slice (A 0) (N 0).length (C 0), .slice (A 1) (N 1).length (C 1)] 27))
  have hs0 : w.heap.size < (w.alloc (.cells #[.slice (A 0) (N 0).length (C 0), .slice (A 1) (N 1).length (C 1)] 27)).heap.size := by simp
  go_enter Tryz.func57, Tryz.ntmps57
  go_wp2_with fail
  generalize (w.alloc (.cells #[.slice (A 0) (N 0).length (C 0), .slice (A 1) (N 1).length (C 1)] 27)) = v0 at HCE B0 hs0 ⊢
  go_loopw [7, 18] (fun ov iv wr => ∃ (i : Nat) (oa : Option Addr) (oc n : Nat), i ≤ 2 ∧ iv = .int .i64 (i : Int) ∧ ov = .slice oa n oc ∧ n ≤ i * 1048576 ∧ Hid (n = (insAll (pre N i)).length) ∧ Hid (wr.ownsRow w.heap.size 59 4 (.slice oa n oc) n (flat lim (insAll (pre N i)))) ∧ Hid (Below v0.heap.size v0 wr)) (fun _ iv _ => 2 - (intOf iv).toNat)
  case atStart => exact ⟨0, none, 0, 0, by simp, rfl, rfl, by simp, hide (by simp [insAll, pre]), hide (World.ownsRow_nil _ _ _ _), hide (Below.refl _ _)⟩
  case round =>
    obtain ⟨i, oa, oc, n, hi, rfl, rfl, hn2, hn, how, hb⟩ := hrel
    by_cases hlt : i < 2
    · have c0 : wr.cell? ⟨w.heap.size, i, none⟩ = some (.slice (A i) (N i).length (C i)) := ((unhide hb).cell (p := ⟨w.heap.size, i, none⟩) hs0).trans (unhide HCE i hlt)
      obtain ⟨wx, hname⟩ : ∃ v, v = wr := ⟨_, rfl⟩
      subst hname
      have hll := unhide HL i hlt
      have hid : decide ((i : Int) < 2) = true := by simp; omega
      have BX := hide ((unhide B0).trans ((unhide hb).mono (unhide B0).size))
      have LX := hide ((unhide HAT i hlt).below (unhide BX) (Nat.le_refl _))
      have hzx := (unhide BX).size
      have UZ : Hid (insAll (pre N i) = insAll (upto N i 0)) := by rw [upto_zero]; exact hide rfl
      rw [unhide UZ] at hn how
      clear UZ
      generalize A i = ai at c0 LX
      go_wp2_with fail
      go_loopw [7, 24] (fun ov jv wr => ∃ (q : Nat) (oa : Option Addr) (oc n : Nat), q ≤ (N i).length ∧ jv = .int .i64 (q : Int) ∧ ov = .slice oa n oc ∧ n ≤ i * 1048576 + q ∧ Hid (n = (insAll (upto N i q)).length) ∧ Hid (wr.ownsRow w.heap.size 59 4 (.slice oa n oc) n (flat lim (insAll (upto N i q)))) ∧ Hid (Below wx.heap.size wx wr)) (fun _ jv _ => (N i).length - (intOf jv).toNat)
      case atStart => exact ⟨0, oa, oc, n, Nat.zero_le _, rfl, rfl, Nat.le_trans hn2 (Nat.le_add_right _ _), hn, how, hide (Below.refl _ _)⟩
      case round =>
        obtain ⟨q, oa, oc, n, hq, rfl, rfl, hnq, hn, how, hbi⟩ := hrel
        have hzi := (unhide hbi).size
        by_cases hqt : q < (N i).length
        · obtain ⟨nb, no, ha, hnb, hnc⟩ := unhide LX (fun e => by rw [e] at hqt; simp at hqt)
          obtain ⟨d0, d1⟩ := (hnc q hqt).below (unhide hbi) hnb
          subst ha
          have HS := hide (upto_succ hqt)
          clear hnc
          generalize (N i).getD q Nodes.zero = nd at d0 d1 HS
          obtain ⟨x, wt⟩ := nd
          dsimp only at d0 d1 HS
          have hnb' : nb < wr.heap.size := Nat.lt_of_lt_of_le hnb hzi
          have HS2 : Hid (insAll (upto N i (q + 1)) = ins x (insAll (upto N i q))) := by rw [unhide HS]; exact insAll_snoc _ _
          clear HS
          generalize insAll (upto N i q) = L at hn how HS2
          have hkl := kOf_le x L
          rw [← unhide hn] at hkl
          have HKL := hide (fun j => @kOf_lt x L j)
          have HKA := hide (@kOf_at x L)
          obtain ⟨e0, e1⟩ := box2 wr 76 (.string x) (.int .i64 wt)
          have hbx : wr.heap.size < (wr.alloc (.cells #[.string x, .int .i64 wt] 76)).heap.size := by simp
          have OW1 := hide ((unhide how).alloc (.cells #[.string x, .int .i64 wt] 76))
          have B1 := hide ((unhide hbi).alloc hzi (.cells #[.string x, .int .i64 wt] 76))
          go_wp2_with fail
          generalize (wr.alloc (.cells #[.string x, .int .i64 wt] 76)) = w1 at e0 e1 hbx OW1 B1 ⊢
          generalize wr.heap.size = bx at e0 e1 hbx hnb' hzi ⊢
          clear e1 d0 d1 how hbi
          go_loopw [12] (fun kv wr => ∃ k : Nat, k ≤ kOf x L ∧ kv = .int .i64 (k : Int) ∧ Hid (Below w1.heap.size w1 wr)) (fun kv _ => kOf x L - (intOf kv).toNat)
          case atStart => exact ⟨0, Nat.zero_le _, rfl, hide (Below.refl _ _)⟩
          case round =>
            obtain ⟨k, hk, rfl, hb3⟩ := hrel
            have c2 : wr.cell? ⟨bx, 0, none⟩ = some (.string x) := ((unhide hb3).cell (p := ⟨bx, 0, none⟩) hbx).trans e0
            have OW3 := hide (OwnR.own_below (unhide OW1) (unhide hb3) (Nat.le_refl _))
            have hz3 := (unhide hb3).size
            have hbx3 : bx < wr.heap.size := Nat.lt_of_lt_of_le hbx hz3
            have B3 := hide ((unhide B1).trans ((unhide hb3).mono (unhide B1).size))
            have HBQ : Hid (∀ m, Below wr.heap.size wr (wr.drewN m)) := fun m => bel_draws (Below.refl _ _) m
            by_cases hkn : k < n
            · obtain ⟨g, cap', hf, hgb, hncap, hgl⟩ := OwnR.own_some (unhide OW3) (by omega)
              simp only [Value.slice.injEq] at hf
              obtain ⟨hf, _, rfl⟩ := hf
              subst hf
              have c1 : wr.cell? ⟨g, k * 4, none⟩ = some (.string (L.getD k ByteArray.empty)) := own_cells (unhide OW3) (flat_name lim L k (by rw [← unhide hn]; exact hkn))
              by_cases hkk : k < kOf x L
              · have hless := unhide HKL k hkk
                generalize L.getD k ByteArray.empty = y at c1 hless
                go_wp2_with fail
                go_quiet (fail)
                generalize hwq : wr.drewN _ = wq
                have hb2 : Below wr.heap.size wr wq := by rw [← hwq]; exact unhide HBQ _
                have B2 := hide ((unhide hb3).trans (hb2.mono (unhide hb3).size))
                clear hb2 hwq c1 c2 HBQ
                go_wp2
                go_roundw
                case rel => exact ⟨k + 1, by omega, by go_num, B2⟩
                case measure => simp [intOf]; omega
              · obtain rfl : k = kOf x L := by omega
                have hless := unhide HKA (by rw [← unhide hn]; exact hkn)
                by_cases hsame : L.getD (kOf x L) ByteArray.empty = x
                · have HSM : Hid (insAll (upto N i (q + 1)) = L) := (unhide HS2).trans (ins_there (by rw [← unhide hn]; exact hkn) hsame)
                  rw [hsame] at c1 hless
                  have hyy : (x.toList == x.toList) = true := by simp
                  generalize kOf x L = kk at *
                  go_wp2_with fail
                  go_quiet (fail)
                  generalize hwq : wr.drewN _ = wq
                  have hb2 : Below wr.heap.size wr wq := by rw [← hwq]; exact unhide HBQ _
                  have B2 := hide ((unhide B3).trans (hb2.mono (unhide B3).size))
                  have c1' := (hb2.cell (p := ⟨g, kk * 4, none⟩) hgl).trans c1
                  have c2' := (hb2.cell (p := ⟨bx, 0, none⟩) hbx3).trans c2
                  have OW4 := hide (OwnR.own_below (unhide OW3) hb2 (Nat.le_refl _))
                  have HBQ2 : Hid (∀ m, Below wq.heap.size wq (wq.drewN m)) := fun m => bel_draws (Below.refl _ _) m
                  clear hb2 hwq c1 c2 HBQ
                  go_wp2_with fail
                  go_quiet (fail)
                  generalize hwq : wq.drewN _ = wq2
                  have hb2 : Below wq.heap.size wq wq2 := by rw [← hwq]; exact unhide HBQ2 _
                  have B5 := hide ((unhide B2).trans (hb2.mono (unhide B2).size))
                  have OW5 := hide (OwnR.own_below (unhide OW4) hb2 (Nat.le_refl _))
                  clear hb2 hwq
                  go_wp2
                  go_roundw
                  case rel => exact ⟨q + 1, _, _, n, by omega, by go_num, rfl, by omega, by rw [unhide HSM]; exact hn, by rw [unhide HSM]; exact OW5, B5⟩
                  case measure => simp [intOf]; omega
                · have hnot : ¬ (kOf x L < L.length ∧ L.getD (kOf x L) ByteArray.empty = x) := fun h => hsame h.2
                  have HNW : Hid (insAll (upto N i (q + 1)) = L.take (kOf x L) ++ [x] ++ L.drop (kOf x L)) := (unhide HS2).trans (ins_new hnot)
                  have hxy : (L.getD (kOf x L) ByteArray.empty).toList ≠ x.toList := fun e => hsame (by
                    rw [Lib.toList_data, Lib.toList_data] at e
                    exact Go.WideShapes.bytes_inj e)
                  have hyy : ((L.getD (kOf x L) ByteArray.empty).toList == x.toList) = false := by simpa using hxy
                  generalize L.getD (kOf x L) ByteArray.empty = y at c1 hless hyy
                  have hkl2 : kOf x L ≤ L.length := kOf_le x L
                  generalize kOf x L = kk at *
                  clear hnot hxy
                  go_wp2_with fail
                  go_quiet (fail)
                  generalize hwq : wr.drewN _ = wq
                  have hb2 : Below wr.heap.size wr wq := by rw [← hwq]; exact unhide HBQ _
                  have B2 := hide ((unhide B3).trans (hb2.mono (unhide B3).size))
                  have c1' := (hb2.cell (p := ⟨g, kk * 4, none⟩) hgl).trans c1
                  have c2' := (hb2.cell (p := ⟨bx, 0, none⟩) hbx3).trans c2
                  have OW4 := hide (OwnR.own_below (unhide OW3) hb2 (Nat.le_refl _))
                  have hgl2 := Nat.lt_of_lt_of_le hgl hb2.size
                  have hbx4 := Nat.lt_of_lt_of_le hbx3 hb2.size
                  have HBQ2 : Hid (∀ m, Below wq.heap.size wq (wq.drewN m)) := fun m => bel_draws (Below.refl _ _) m
                  clear hb2 hwq c1 c2 HBQ
                  go_wp2_with fail
                  go_quiet (fail)
                  generalize hwq : wq.drewN _ = wt
                  have hb2 : Below wq.heap.size wq wt := by rw [← hwq]; exact unhide HBQ2 _
                  have B5 := hide ((unhide B2).trans (hb2.mono (unhide B2).size))
                  have OW5 := hide (OwnR.own_below (unhide OW4) hb2 (Nat.le_refl _))
                  have c2t := (hb2.cell (p := ⟨bx, 0, none⟩) hbx4).trans c2'
                  have hglt := Nat.lt_of_lt_of_le hgl2 hb2.size
                  have hbxt := Nat.lt_of_lt_of_le hbx4 hb2.size
                  clear hb2 hwq c1' c2' OW3 OW4 B2 B3 HBQ2
                  go_wp2_with (at_builtin; go_loud (refine wpList_append_own _ rfl _ _ 28 rfl wt.heap.size 59 i0 _ 4 56 Tryz.underlying28 (unhide HI) (unhide HZ0) (unhide HZ1) (unhide HZ2) rfl (by decide) _ _ _ rfl (World.ownsRow_nil _ _ _ _) ⟨g, 0, none⟩ kk oc (flat lim (L.take kk)) rfl ?c0 (news_head (unhide OW5)) (fun u hu => flat_one_cell hu) ?c3 ?c4 ?c5 ?_))
                  case c0 => rw [flat_len, List.length_take, Nat.min_eq_left hkl2]
                  case c3 => unfold maxLen; omega
                  case c4 => omega
                  case c5 => exact Nat.le_refl _
                  intro v5 w5 h5 hg5 _
                  have hb5 : Below wt.heap.size wt w5 := (Below.refl _ _).grown hg5 (Nat.le_refl _) (fun b e => by simp [Value.ownBlock] at e)
                  obtain ⟨a5, c5, rfl⟩ := OwnR.own_form h5
                  have O5 := hide h5
                  have T5 := hide hb5
                  have c25 := (hb5.cell (p := ⟨bx, 0, none⟩) hbxt).trans c2t
                  have hbx5 := Nat.lt_of_lt_of_le hbxt hb5.size
                  have hz5 := hb5.size
                  clear h5 hg5 hb5 c2t
                  go_wp2_with (at_builtin; go_loud (refine wpList_append_own _ rfl _ _ 28 rfl wt.heap.size 59 i0 _ 4 56 Tryz.underlying28 (unhide HI) (unhide HZ0) (unhide HZ1) (unhide HZ2) rfl (by decide) _ _ _ rfl ((unhide O5).alloc _) ⟨w5.heap.size, 0, none⟩ 1 1 (cellsOf lim x) rfl rfl ?c1 ?c2 ?c3 ?c4 ?c5 ?_))
                  case c1 => exact news_one w5 lim x _
                  case c2 => exact fun u hu => flat_one_cell (lim := lim) (L := [x]) (by rw [flat_one]; exact hu)
                  case c3 => unfold maxLen; omega
                  case c4 => omega
                  case c5 => simp; omega
                  intro v6 w6 h6 hg6 _
                  have T6 := hide (((unhide T5).alloc hz5 _).grown hg6 (by simp; omega) (OwnR.own_block (unhide O5)))
                  obtain ⟨a6, c6, rfl⟩ := OwnR.own_form h6
                  have O6 := hide h6
                  have OWT := hide (OwnR.own_below (unhide OW5) (unhide T6) (Nat.le_refl _))
                  have hz6 := (unhide T6).size
                  clear h6 hg6 O5 T5
                  go_wp2_with (at_builtin; go_loud (refine wpList_append_own _ rfl _ _ 28 rfl wt.heap.size 59 i0 _ 4 56 Tryz.underlying28 (unhide HI) (unhide HZ0) (unhide HZ1) (unhide HZ2) rfl (by decide) _ _ _ rfl (unhide O6) _ _ _ (flat lim (L.drop kk)) rfl ?c0 ?c1 (fun u hu => flat_one_cell hu) ?c3 ?c4 ?c5 ?_))
                  case c0 => rw [flat_len, List.length_drop, ← unhide hn]
                  case c1 => exact news_tail hkl2 (unhide OWT)
                  case c3 => unfold maxLen; omega
                  case c4 => omega
                  case c5 => omega
                  intro v7 w7 h7 hg7 _
                  have T7 := hide ((unhide T6).grown hg7 hz6 (OwnR.own_block (unhide O6)))
                  obtain ⟨a7, c7, rfl⟩ := OwnR.own_form h7
                  have hzt := (unhide B5).size
                  have O7 : Hid (w7.ownsRow w.heap.size 59 4 (.slice a7 (n + 1) c7) (n + 1) (flat lim (insAll (upto N i (q + 1))))) := by
                    rw [unhide HNW, flat_append, flat_append, flat_one, List.append_assoc]
                    rw [show kk + 1 + (n - kk) = n + 1 by omega] at h7
                    exact OwnR.own_le h7 (by omega)
                  have N7 : Hid (n + 1 = (insAll (upto N i (q + 1))).length) := by
                    refine hide ?_
                    have := unhide hn
                    rw [unhide HNW, List.length_append, List.length_append, List.length_take, List.length_drop, Nat.min_eq_left hkl2, List.length_singleton]
                    omega
                  have hnn : kk + 1 + (n - kk) = n + 1 := by omega
                  rw [hnn]
                  have B7 := hide ((unhide B5).trans ((unhide T7).mono (unhide B5).size))
                  clear h7 hg7 O6 T6 hnn
                  go_wp2
                  go_roundw
                  case rel => exact ⟨q + 1, a7, c7, n + 1, by omega, by go_num, rfl, by omega, N7, O7, B7⟩
                  case measure => simp [intOf]; omega
            · obtain rfl : k = n := by omega
              have hkn' : kOf x L = k := by omega
              have hLk : L.length = k := (unhide hn).symm
              have hnot : ¬ (kOf x L < L.length ∧ L.getD (kOf x L) ByteArray.empty = x) := fun h => by omega
              have HNW : Hid (insAll (upto N i (q + 1)) = L ++ [x]) := by
                refine hide ((unhide HS2).trans ((ins_new hnot).trans ?_))
                rw [hkn', ← hLk]; simp
              have HLK := hide hLk
              clear hnot hkn' hLk HKL HKA
              have hkk : ¬ ((k : Int) < (k : Int)) := by omega
              go_wp2_with fail
              go_quiet (fail)
              generalize hwq : wr.drewN _ = wq
              have hb2 : Below wr.heap.size wr wq := by rw [← hwq]; exact unhide HBQ _
              have B2 := hide ((unhide B3).trans (hb2.mono (unhide B3).size))
              have c2' := (hb2.cell (p := ⟨bx, 0, none⟩) hbx3).trans c2
              have OW4 := hide (OwnR.own_below (unhide OW3) hb2 (Nat.le_refl _))
              have hbx4 := Nat.lt_of_lt_of_le hbx3 hb2.size
              have HBQ2 : Hid (∀ m, Below wq.heap.size wq (wq.drewN m)) := fun m => bel_draws (Below.refl _ _) m
              clear hb2 hwq c2 HBQ
              go_wp2_with fail
              go_quiet (fail)
              generalize hwq : wq.drewN _ = wt
              have hb2 : Below wq.heap.size wq wt := by rw [← hwq]; exact unhide HBQ2 _
              have B5 := hide ((unhide B2).trans (hb2.mono (unhide B2).size))
              have OW5 := hide (OwnR.own_below (unhide OW4) hb2 (Nat.le_refl _))
              have c2t := (hb2.cell (p := ⟨bx, 0, none⟩) hbx4).trans c2'
              have hbxt := Nat.lt_of_lt_of_le hbx4 hb2.size
              clear hb2 hwq c2' OW3 OW4 B2 B3 HBQ2
              rcases (unhide OW5).2 with ⟨hv, hk0⟩ | ⟨g, cap', cur, hv, hgb, hh, hncap, _, hsz, ht⟩
              · simp only [Value.slice.injEq] at hv
                obtain ⟨rfl, rfl, rfl⟩ := hv
                have hL0 : L = [] := List.length_eq_zero_iff.1 (by have := unhide HLK; omega)
                subst hL0
                have HRUN := hide (fun ty => run_append_owned_none (P := Tryz.prog) (w := wt) wt.heap.size 28 ty 59 i0 4 Tryz.underlying28 (unhide HI) (.slice none 0 0) 0 [] (World.ownsRow_nil _ _ _ _))
                go_wp2_with (at_builtin; go_loud (refine wpList_append_own _ rfl _ _ 28 rfl wt.heap.size 59 i0 _ 4 56 Tryz.underlying28 (unhide HI) (unhide HZ0) (unhide HZ1) (unhide HZ2) rfl (by decide) _ _ _ rfl (World.ownsRow_nil _ _ _ _) ⟨wt.heap.size, 0, none⟩ 1 1 (cellsOf lim x) rfl rfl ?n1 ?n2 ?n3 ?n4 ?n5 ?_))
                case n1 => exact fun j u hj => hj
                case n2 => exact fun u hu => flat_one_cell (lim := lim) (L := [x]) (by rw [flat_one]; exact hu)
                case n3 => unfold maxLen; omega
                intro v6 w6 h6 hg6 _
                try simp only [Nat.zero_add, List.nil_append] at h6
                have T6 := hide (((Below.refl wt.heap.size wt).alloc (Nat.le_refl _) _).grown hg6 (by simp) (fun b e => by simp [Value.ownBlock] at e))
                obtain ⟨a7, c7, rfl⟩ := OwnR.own_form h6
                clear HRUN
                have HRUN := hide (fun ty => run_append_owned_none (P := Tryz.prog) (w := w6) wt.heap.size 28 ty 59 i0 4 Tryz.underlying28 (unhide HI) _ _ _ h6)
                have N7 : Hid (1 = (insAll (upto N i (q + 1))).length) := by
                  refine hide ?_
                  rw [unhide HNW, List.length_append, List.length_singleton, unhide HLK]
                have hzt := (unhide B5).size
                have O7 : Hid (w6.ownsRow w.heap.size 59 4 (.slice a7 (1) c7) (1) (flat lim (insAll (upto N i (q + 1))))) := by
                  rw [unhide HNW, flat_append, flat_one]
                  exact OwnR.own_le h6 (by omega)
                have B7 := hide ((unhide B5).trans ((unhide T6).mono (unhide B5).size))
                clear h6 hg6
                go_wp2_with (at_builtin; refine Lib.wpList_append_run _ rfl _ _ _ _ rfl _ _ rfl rfl _ _ (unhide HRUN _) ?_)
                go_roundw
                case rel => exact ⟨q + 1, a7, c7, 1, by omega, by go_num, rfl, by omega, N7, O7, B7⟩
                case measure => simp [intOf]; omega
              · simp only [Value.slice.injEq] at hv
                obtain ⟨rfl, _, rfl⟩ := hv
                have hglt : g < wt.heap.size := (Array.getElem?_eq_some_iff.1 hh).1
                clear hh hsz ht
                by_cases hcap : k < oc
                · skip
                  go_wp2_with (at_builtin; go_loud (refine wpList_append_own _ rfl _ _ 28 rfl wt.heap.size 59 i0 _ 4 56 Tryz.underlying28 (unhide HI) (unhide HZ0) (unhide HZ1) (unhide HZ2) rfl (by decide) _ _ _ rfl (World.ownsRow_nil _ _ _ _) ⟨g, 0, none⟩ k _ (flat lim L) rfl ?c0 ?c1 (fun u hu => flat_one_cell hu) ?c3 ?c4 ?c5 ?_))
                  case c0 => rw [flat_len, unhide HLK]
                  case c1 => exact fun j u hj => by rw [Go.WideShapes.add_plain, Nat.zero_add]; exact own_cells (unhide OW5) hj
                  case c3 => unfold maxLen; omega
                  case c4 => omega
                  case c5 => exact Nat.le_refl _
                  intro v5 w5 h5 hg5 _
                  have hb5 : Below wt.heap.size wt w5 := (Below.refl _ _).grown hg5 (Nat.le_refl _) (fun b e => by simp [Value.ownBlock] at e)
                  obtain ⟨a5, c5, rfl⟩ := OwnR.own_form h5
                  have O5 := hide h5
                  have T5 := hide hb5
                  have c25 := (hb5.cell (p := ⟨bx, 0, none⟩) hbxt).trans c2t
                  have hbx5 := Nat.lt_of_lt_of_le hbxt hb5.size
                  have hz5 := hb5.size
                  clear h5 hg5 hb5 c2t
                  go_wp2_with (at_builtin; go_loud (refine wpList_append_own _ rfl _ _ 28 rfl wt.heap.size 59 i0 _ 4 56 Tryz.underlying28 (unhide HI) (unhide HZ0) (unhide HZ1) (unhide HZ2) rfl (by decide) _ _ _ rfl ((unhide O5).alloc _) ⟨w5.heap.size, 0, none⟩ 1 1 (cellsOf lim x) rfl rfl ?c1 ?c2 ?c3 ?c4 ?c5 ?_))
                  case c1 => exact news_one w5 lim x _
                  case c2 => exact fun u hu => flat_one_cell (lim := lim) (L := [x]) (by rw [flat_one]; exact hu)
                  case c3 => unfold maxLen; omega
                  case c4 => omega
                  case c5 => simp; omega
                  intro v6 w6 h6 hg6 _
                  have T6 := hide (((unhide T5).alloc hz5 _).grown hg6 (by simp; omega) (OwnR.own_block (unhide O5)))
                  obtain ⟨a6, c6, rfl⟩ := OwnR.own_form h6
                  have O6 := hide h6
                  have hz6 := (unhide T6).size
                  clear h6 hg6 O5 T5
                  go_wp2_with (at_builtin; go_loud (refine wpList_append_own _ rfl _ _ 28 rfl wt.heap.size 59 i0 _ 4 56 Tryz.underlying28 (unhide HI) (unhide HZ0) (unhide HZ1) (unhide HZ2) rfl (by decide) _ _ _ rfl (unhide O6) _ _ _ [] rfl ?c0 ?c1 (fun u hu => by simp at hu) ?c3 ?c4 ?c5 ?_))
                  case c0 => simp
                  case c1 => exact fun j u hj => by simp at hj
                  case c3 => unfold maxLen; omega
                  case c4 => omega
                  case c5 => omega
                  intro v7 w7 h7 hg7 _
                  have T7 := hide ((unhide T6).grown hg7 hz6 (OwnR.own_block (unhide O6)))
                  obtain ⟨a7, c7, rfl⟩ := OwnR.own_form h7
                  have N7 : Hid (k + 1 = (insAll (upto N i (q + 1))).length) := by
                    refine hide ?_
                    rw [unhide HNW, List.length_append, List.length_singleton, unhide HLK]
                  have hzt := (unhide B5).size
                  have O7 : Hid (w7.ownsRow w.heap.size 59 4 (.slice a7 (k + 1) c7) (k + 1) (flat lim (insAll (upto N i (q + 1))))) := by
                    rw [unhide HNW, flat_append, flat_one]
                    refine OwnR.own_le ?_ (show w.heap.size ≤ wt.heap.size by omega)
                    simpa using h7
                  have B7 := hide ((unhide B5).trans ((unhide T7).mono (unhide B5).size))
                  clear h7 hg7 O6 T6
                  go_wp2
                  go_roundw
                  case rel => exact ⟨q + 1, a7, c7, k + 1, by omega, by go_num, rfl, by omega, N7, O7, B7⟩
                  case measure => simp [intOf]; omega
                · obtain rfl : k = oc := by omega
                  go_wp2_with (at_builtin; go_loud (refine wpList_append_own _ rfl _ _ 28 rfl wt.heap.size 59 i0 _ 4 56 Tryz.underlying28 (unhide HI) (unhide HZ0) (unhide HZ1) (unhide HZ2) rfl (by decide) _ _ _ rfl (World.ownsRow_nil _ _ _ _) ⟨g, 0, none⟩ k _ (flat lim L) rfl ?d0 ?d1 (fun u hu => flat_one_cell hu) ?d3 ?d4 ?d5 ?_))
                  case d0 => rw [flat_len, unhide HLK]
                  case d1 => exact fun j u hj => by rw [Go.WideShapes.add_plain, Nat.zero_add]; exact own_cells (unhide OW5) hj
                  case d3 => unfold maxLen; omega
                  case d4 => omega
                  case d5 => exact Nat.le_refl _
                  intro v5 w5 h5 hg5 _
                  have hb5 : Below wt.heap.size wt w5 := (Below.refl _ _).grown hg5 (Nat.le_refl _) (fun b e => by simp [Value.ownBlock] at e)
                  obtain ⟨a5, c5, rfl⟩ := OwnR.own_form h5
                  have O5 := hide h5
                  have T5 := hide hb5
                  have c25 := (hb5.cell (p := ⟨bx, 0, none⟩) hbxt).trans c2t
                  have hbx5 := Nat.lt_of_lt_of_le hbxt hb5.size
                  have hz5 := hb5.size
                  clear h5 hg5 hb5 c2t
                  go_wp2_with (at_builtin; go_loud (refine wpList_append_own _ rfl _ _ 28 rfl wt.heap.size 59 i0 _ 4 56 Tryz.underlying28 (unhide HI) (unhide HZ0) (unhide HZ1) (unhide HZ2) rfl (by decide) _ _ _ rfl ((unhide O5).alloc _) ⟨w5.heap.size, 0, none⟩ 1 1 (cellsOf lim x) rfl rfl ?d1 ?d2 ?d3 ?d4 ?d5 ?_))
                  case d1 => exact news_one w5 lim x _
                  case d2 => exact fun u hu => flat_one_cell (lim := lim) (L := [x]) (by rw [flat_one]; exact hu)
                  case d3 => unfold maxLen; omega
                  case d4 => omega
                  case d5 => simp; omega
                  intro v6 w6 h6 hg6 _
                  have T6 := hide (((unhide T5).alloc hz5 _).grown hg6 (by simp; omega) (OwnR.own_block (unhide O5)))
                  obtain ⟨a6, c6, rfl⟩ := OwnR.own_form h6
                  have O6 := hide h6
                  have hz6 := (unhide T6).size
                  clear h6 hg6 O5 T5
                  go_wp2_with (at_builtin; go_loud (refine wpList_append_own _ rfl _ _ 28 rfl wt.heap.size 59 i0 _ 4 56 Tryz.underlying28 (unhide HI) (unhide HZ0) (unhide HZ1) (unhide HZ2) rfl (by decide) _ _ _ rfl (unhide O6) _ _ _ [] rfl ?d0 ?d1 (fun u hu => by simp at hu) ?d3 ?d4 ?d5 ?_))
                  case d0 => simp
                  case d1 => exact fun j u hj => by simp at hj
                  case d3 => unfold maxLen; omega
                  case d4 => omega
                  case d5 => omega
                  intro v7 w7 h7 hg7 _
                  have T7 := hide ((unhide T6).grown hg7 hz6 (OwnR.own_block (unhide O6)))
                  obtain ⟨a7, c7, rfl⟩ := OwnR.own_form h7
                  have N7 : Hid (k + 1 = (insAll (upto N i (q + 1))).length) := by
                    refine hide ?_
                    rw [unhide HNW, List.length_append, List.length_singleton, unhide HLK]
                  have hzt := (unhide B5).size
                  have O7 : Hid (w7.ownsRow w.heap.size 59 4 (.slice a7 (k + 1) c7) (k + 1) (flat lim (insAll (upto N i (q + 1))))) := by
                    rw [unhide HNW, flat_append, flat_one]
                    refine OwnR.own_le ?_ (show w.heap.size ≤ wt.heap.size by omega)
                    simpa using h7
                  have B7 := hide ((unhide B5).trans ((unhide T7).mono (unhide B5).size))
                  clear h7 hg7 O6 T6
                  go_wp2
                  go_roundw
                  case rel => exact ⟨q + 1, a7, c7, k + 1, by omega, by go_num, rfl, by omega, N7, O7, B7⟩
                  case measure => simp [intOf]; omega
        · obtain rfl : q = (N i).length := by omega
          have UE : Hid (insAll (upto N i (N i).length) = insAll (pre N (i + 1))) := by rw [upto_end]; exact hide rfl
          have HN2 : Hid (n = (insAll (pre N (i + 1))).length) := by rw [← unhide UE]; exact hn
          have HO2 : Hid (wr.ownsRow w.heap.size 59 4 (.slice oa n oc) n (flat lim (insAll (pre N (i + 1))))) := by rw [← unhide UE]; exact how
          have HB2 := hide ((unhide hb).trans ((unhide hbi).mono (unhide hb).size))
          clear UE how hn
          go_wp2
          go_roundw
          case rel => exact ⟨i + 1, oa, oc, n, by omega, by go_num, rfl, by omega, HN2, HO2, HB2⟩
          case measure => simp [intOf]; omega
    · obtain rfl : i = 2 := by omega
      have HF : Hid (wr.ownsRow w.heap.size 59 4 (.slice oa n oc) (insAll (pre N 2)).length (flat lim (insAll (pre N 2)))) := by rw [← unhide hn]; exact how
      have BX := hide ((unhide B0).trans ((unhide hb).mono (unhide B0).size))
      go_wp2
      go_ret
      exact ⟨.slice oa n oc, rfl, unhide HF, unhide BX⟩
end Plc
end Go.Proofs.YtkodgbalhnbhcaaGreatDoor
/-
  The model's l7Limit; the cells of a row of nodes.
-/
namespace Go.Proofs.YtkodgbalhnbhcaaGreatDoor
namespace Plc
open Go.RowKit Base Marks GoodKey
set_option linter.unusedVariables false

set_option maxRecDepth 10000 in
theorem limit_any (n : Int) (w : World) : Calls Tryz.prog 56 #[.int .i64 n] w fun e w' => e = .returned (.bool (inB n 0 10000)) ∧ w' = w := by
  have HI := hide (l1In_any n 0 10000 w)
  go_enter Tryz.func56, Tryz.ntmps56
  go_wp2_with fail
  refine (unhide HI).mono ?_
  rintro e w' ⟨rfl, h⟩
  rw [h]; clear h w'
  go_wp2
  go_ret
  exact ⟨rfl, rfl⟩
def nflat (l : List Nodes.D) : List Value := l.flatMap (fun x => [.string x.name, .int .i64 x.weight])
theorem nflat_len (l : List Nodes.D) : (nflat l).length = l.length * 2 := by
  induction l with
  | nil => rfl
  | cons x r ih =>
    have e : nflat (x :: r) = [.string x.name, .int .i64 x.weight] ++ nflat r := by simp [nflat]
    rw [e, List.length_append, ih]; simp; omega
theorem nflat_get : ∀ (l : List Nodes.D) (j : Nat), j < l.length * 2 → (nflat l)[j]? = some (Nodes.icell l j)
  | [], j, h => by simp at h
  | x :: r, j, h => by
    have e : nflat (x :: r) = [.string x.name, .int .i64 x.weight] ++ nflat r := by simp [nflat]
    rw [e]
    by_cases h2 : j < 2
    · rw [List.getElem?_append_left (by simpa using h2)]
      obtain rfl | rfl : j = 0 ∨ j = 1 := by omega
      all_goals simp [Nodes.icell]
    · obtain ⟨i, rfl⟩ : ∃ i, j = i + 2 := ⟨j - 2, by omega⟩
      rw [List.getElem?_append_right (by simp)]
      have ei : Nodes.icell (x :: r) (i + 2) = Nodes.icell r i := by
        unfold Nodes.icell
        rw [show (i + 2) % 2 = i % 2 by omega, show (i + 2) / 2 = i / 2 + 1 by omega]
        simp
      rw [ei]
      simp only [List.length_cons, List.length_nil, Nat.zero_add, Nat.add_sub_cancel]
      exact nflat_get r i (by simp at h; omega)
theorem nflat_one {l : List Nodes.D} {u : Value} (h : u ∈ nflat l) : u.oneCell' = true := by
  obtain ⟨x, _, hx⟩ := List.mem_flatMap.1 h
  simp only [List.mem_cons, List.not_mem_nil, or_false] at hx
  rcases hx with rfl | rfl <;> rfl
theorem nflat_cells {w : World} {b off : Nat} {l : List Nodes.D} (hc : ∀ i, i < l.length → Nodes.At w b (off + i * 2) (l.getD i Nodes.zero)) (j : Nat) (u : Value) (hj : (nflat l)[j]? = some u) : w.cell? ((⟨b, off, none⟩ : Addr).add j) = some u := by
  have hlt : j < l.length * 2 := by rw [← nflat_len]; exact (List.getElem?_eq_some_iff.1 hj).1
  rw [Go.WideShapes.add_plain]
  rw [nflat_get l j hlt] at hj
  obtain rfl := Option.some.inj hj
  obtain ⟨h0, h1⟩ := hc (j / 2) (by omega)
  unfold Nodes.icell
  by_cases h2 : j % 2 = 0
  · rw [if_pos h2]; rw [show off + j / 2 * 2 = off + j by omega] at h0; exact h0
  · rw [if_neg h2]; rw [show off + j / 2 * 2 + 1 = off + j by omega] at h1; exact h1
theorem own_empty {w : World} {g base : Nat} {t : TypeId} {size : Nat} (h : w.heap[g]? = some (.cells #[] t (0, 0))) (hg : base ≤ g) : w.ownsRow base t size (.slice (some ⟨g, 0, none⟩) 0 0) 0 [] :=
  ⟨by simp, .inr ⟨g, 0, #[], rfl, hg, h, Nat.le_refl _, Nat.zero_le _, by simp, by simp⟩⟩
end Plc
end Go.Proofs.YtkodgbalhnbhcaaGreatDoor
