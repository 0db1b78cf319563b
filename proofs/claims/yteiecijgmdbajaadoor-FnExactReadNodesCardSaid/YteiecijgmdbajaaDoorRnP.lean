/-
  Nodes read from a text, as plain data. No Go function is spoken of here.
-/
import Derived.Test.YteiecijgmdbajaaDoorNtP
import Derived.Test.YteiecijgmdbajaaDoorSpP
import Derived.Test.YteiecijgmdbajaaDoorReadP
namespace Go.Proofs.YteiecijgmdbajaaDoor
namespace Rn
open Go.RowKit Base GoodKey Nodes NumText Sp Count
set_option linter.unusedVariables false

abbrev bl (s : ByteArray) : List UInt8 := s.data.toList
theorem bl_inj {a b : ByteArray} (h : bl a = bl b) : a = b := Go.WideShapes.bytes_inj h
theorem bl_app (a b : ByteArray) : bl (a ++ b) = bl a ++ bl b := by simp [bl]
theorem bl_len (a : ByteArray) : (bl a).length = a.size := by simp [bl]
theorem rd_some {l : List UInt8} {most v : Int} (h : rdB l most = some v) : 0 ≤ v ∧ v ≤ most ∧ l = Lib.decDigits v.toNat := by
  unfold rdB at h
  split at h
  · rename_i u hu
    split at h
    · rename_i hc
      simp only [Option.some.injEq] at h
      subst h
      refine ⟨hc.1, hc.2.1, ?_⟩
      rw [← hc.2.2]; unfold Lib.itoa; rw [if_neg (by omega)]
    · simp at h
  · simp at h
theorem rd_dec {n : Nat} {most : Int} (h : (n : Int) ≤ most) (h2 : n < 1000000000000000000) : rdB (Lib.decDigits n) most = some (n : Int) := by
  have ha := atoi_plain (plain_dec h2)
  rw [(dec_props n).2.1] at ha
  unfold rdB
  rw [ha]
  dsimp only
  rw [if_pos ⟨by omega, h, by unfold Lib.itoa; rw [if_neg (by omega)]; simp⟩]
theorem dec_dig (n : Nat) : ∀ c ∈ Lib.decDigits n, 48 ≤ c.toNat ∧ c.toNat ≤ 57 := by
  intro c hc
  have := List.all_eq_true.1 (dec_props n).1 c hc
  simpa [digB] using this
theorem ext_bl (s : ByteArray) (a b : Nat) : bl (s.extract a b) = ((bl s).drop a).take (b - a) := by
  simp [bl]
theorem first_of2 (s : ByteArray) (h : 1 < s.size) : firstB s.data.toList = (s[0].toNat == 48) := by
  have e : ∃ a b l, s.data.toList = a :: b :: l := by
    have hl : s.data.toList.length = s.size := by simp
    match hh : s.data.toList, hl with
    | [], hl => simp at hl; omega
    | [a], hl => simp at hl; omega
    | a :: b :: l, _ => exact ⟨a, b, l, rfl⟩
  obtain ⟨a, b, l, e⟩ := e
  have e0 : s[0] = a := by
    have e1 : s[0] = s.data.toList[0]'(by simp; omega) := rfl
    rw [e1]; simp [e]
  rw [e, e0]; rfl
theorem first_one2 (s : ByteArray) (h : s.size ≤ 1) : firstB s.data.toList = false := by
  have hl : s.data.toList.length = s.size := by simp
  match hh : s.data.toList, hl with
  | [], hl => rfl
  | [a], hl => rfl
  | a :: b :: l, hl => simp at hl; omega

/-- What l1Read tells. -/
def mrd (l : List UInt8) : Int := if inB l.length 1 10 = true then if firstB l = true then -1 else if l.all digB = true then if inB (val l) 0 1000000000 = true then val l else -1 else -1 else -1
theorem mrd_bd (l : List UInt8) : -1 ≤ mrd l ∧ mrd l ≤ 1000000000 := by
  unfold mrd
  repeat' split
  all_goals first | omega | (rename_i h; simp [inB] at h; omega)
theorem mrd_dec {n : Nat} (h : n ≤ 1000000000) : mrd (Lib.decDigits n) = n := by
  obtain ⟨h1, h2, h3, h4, h5⟩ := dec_props n
  have hp := plain_dec (n := n) (by omega)
  unfold plainB at hp
  simp only [Bool.and_eq_true, Bool.not_eq_true'] at hp
  have hl : (Lib.decDigits n).length ≤ 10 := by
    have hb := Lib.decDigits_length n
    by_cases h0 : 1 ≤ n
    · have := nDigits_low n h0
      have hlt : Lib.nDigits n - 1 < 10 := by
        apply Nat.lt_of_not_le
        intro hge
        have : 10 ^ 10 ≤ 10 ^ (Lib.nDigits n - 1) := Nat.pow_le_pow_right (by omega) hge
        have e : (10 : Nat) ^ 10 = 10000000000 := by decide
        omega
      omega
    · have : n = 0 := by omega
      subst this
      rw [Lib.decDigits_one (by omega)]; simp
  have hl1 : 1 ≤ (Lib.decDigits n).length := List.length_pos_iff.2 h3
  unfold mrd
  rw [if_pos (by simp [inB]; omega), if_neg (by rw [hp.1.2]; simp), if_pos h1, h2, if_pos (by simp [inB]; omega)]
theorem mrd_1 {s : ByteArray} (g : inB s.size 1 10 = false) : mrd s.data.toList = -1 := by
  have el : s.data.toList.length = s.size := by simp
  unfold mrd; rw [el, g]; simp
theorem mrd_2 {s : ByteArray} (g : firstB s.data.toList = true) : mrd s.data.toList = -1 := by
  unfold mrd; rw [g]; simp
theorem mrd_4 {s : ByteArray} (g : s.data.toList.all digB = false) : mrd s.data.toList = -1 := by
  unfold mrd; rw [g]; simp
theorem mrd_5 {s : ByteArray} (g1 : inB s.size 1 10 = true) (g2 : ¬ firstB s.data.toList = true) (g4 : s.data.toList.all digB = true) : mrd s.data.toList = if inB (val s.data.toList) 0 1000000000 = true then val s.data.toList else -1 := by
  have el : s.data.toList.length = s.size := by simp
  unfold mrd; rw [el, if_pos g1, if_neg g2, if_pos g4]


/-! Words between bytes of one kind. -/
def spc (c : UInt8) : List UInt8 → List (List UInt8)
  | [] => [[]]
  | b :: l => if b = c then [] :: spc c l else pre b (spc c l)
theorem spc_sp (l : List UInt8) : spc 32 l = sp l := by
  induction l with
  | nil => rfl
  | cons b l ih => unfold spc sp; rw [ih]
theorem spc_ne (c : UInt8) (l : List UInt8) : spc c l ≠ [] := by
  cases l with
  | nil => simp [spc]
  | cons b l =>
    unfold spc
    split
    · simp
    · cases h : spc c l <;> simp [pre]
theorem spc_word {c : UInt8} {a : List UInt8} (h : c ∉ a) : spc c a = [a] := by
  induction a with
  | nil => rfl
  | cons b a ih =>
    simp only [List.mem_cons, not_or] at h
    unfold spc
    rw [if_neg (fun e => h.1 e.symm), ih h.2]; rfl
theorem spc_cons {c : UInt8} {a l : List UInt8} (h : c ∉ a) : spc c (a ++ c :: l) = a :: spc c l := by
  induction a with
  | nil => simp [spc]
  | cons b a ih =>
    simp only [List.mem_cons, not_or] at h
    rw [List.cons_append]
    conv => lhs; unfold spc
    rw [if_neg (fun e => h.1 e.symm), ih h.2]; rfl
theorem pre_len (b : UInt8) (r : List (List UInt8)) (h : r ≠ []) : (pre b r).length = r.length := by
  cases r with
  | nil => exact absurd rfl h
  | cons a r => rfl
theorem spc_many (c : UInt8) (l : List UInt8) : (spc c l).length ≤ l.length + 1 := by
  induction l with
  | nil => simp [spc]
  | cons b l ih =>
    unfold spc
    split
    · simp; omega
    · rw [pre_len _ _ (spc_ne c l)]; simp; omega
theorem spc_short (c : UInt8) (l : List UInt8) : ∀ a ∈ spc c l, a.length ≤ l.length := by
  induction l with
  | nil => intro a ha; simp [spc] at ha; subst ha; simp
  | cons b l ih =>
    intro a ha
    unfold spc at ha
    split at ha
    · rcases List.mem_cons.1 ha with rfl | ha
      · simp
      · have := ih a ha; simp; omega
    · cases h : spc c l with
      | nil => exact absurd h (spc_ne c l)
      | cons x r =>
        rw [h] at ha ih
        rcases List.mem_cons.1 ha with rfl | ha
        · have := ih x List.mem_cons_self; simp; omega
        · have := ih a (List.mem_cons_of_mem _ ha); simp; omega
theorem split_at {c : UInt8} {l : List UInt8} (h : c ∈ l) : ∃ a r, c ∉ a ∧ l = a ++ c :: r := by
  induction l with
  | nil => simp at h
  | cons b l ih =>
    by_cases hb : b = c
    · exact ⟨[], l, by simp, by simp [hb]⟩
    · rcases List.mem_cons.1 h with e | h
      · exact absurd e.symm hb
      · obtain ⟨a, r, h1, h2⟩ := ih h
        refine ⟨b :: a, r, ?_, by rw [h2]; rfl⟩
        simp only [List.mem_cons, not_or]
        exact ⟨fun e => hb e.symm, h1⟩
theorem cut_none {c : UInt8} {l : List UInt8} (h : c ∉ l) : Lib.cut l [c] = (l, [], false) := by
  rcases Lib.index_spec l [c] with ⟨hi, _⟩ | ⟨i, h1, h2, h3, _⟩
  · unfold Lib.cut; rw [hi, if_neg (by decide)]
  · exact absurd (List.mem_of_getElem? (Lib.occAt_head rfl h3)) h
theorem cut_some {c : UInt8} {a r : List UInt8} (h : c ∉ a) : Lib.cut (a ++ c :: r) [c] = (a, r, true) := by
  have hi : Lib.index (a ++ c :: r) [c] = a.length := by
    apply Lib.index_first
    · simp
    · unfold Lib.occAt; rw [List.drop_left]; simp [List.isPrefixOf]
    · intro j hj
      cases e : Lib.occAt (a ++ c :: r) [c] j
      · rfl
      · have := Lib.occAt_head rfl e
        rw [List.getElem?_append_left hj] at this
        exact absurd (List.mem_of_getElem? this) h
  unfold Lib.cut
  rw [hi, if_pos (by omega)]
  simp

/-! A node from a word. -/
def mk (a : List UInt8) (v : Int) : D := ⟨⟨a.toArray⟩, v⟩
def nodeM (w : List UInt8) : Option D := match spc 58 w with | [a, b] => some (mk a (mrd b)) | _ => none
def nodeW (w : List UInt8) : Option D := match spc 58 w with | [a, b] => (rdB b 5).map (mk a) | _ => none
/-- What the program's readNode tells. -/
def rnode (w : List UInt8) : D × Bool := match rdB (Lib.cut w [58]).2.1 5 with | some v => (mk (Lib.cut w [58]).1 v, true) | none => (mk (Lib.cut w [58]).1 0, false)
theorem rd_nil (most : Int) : rdB [] most = none := by
  cases h : rdB [] most with
  | none => rfl
  | some v =>
    obtain ⟨_, _, h3⟩ := rd_some h
    exact absurd h3.symm (dec_props _).2.2.1
theorem rd_colon {l : List UInt8} (most : Int) (h : 58 ∈ l) : rdB l most = none := by
  cases h2 : rdB l most with
  | none => rfl
  | some v =>
    obtain ⟨_, _, h3⟩ := rd_some h2
    rw [h3] at h
    have := dec_dig _ _ h
    have e : (58 : UInt8).toNat = 58 := rfl
    omega
theorem nodeW_rnode (w : List UInt8) : nodeW w = if (rnode w).2 = true then some (rnode w).1 else none := by
  by_cases h : 58 ∈ w
  · obtain ⟨a, r, ha, rfl⟩ := split_at h
    have e1 : (rnode (a ++ 58 :: r)) = match rdB r 5 with | some v => (mk a v, true) | none => (mk a 0, false) := by unfold rnode; rw [cut_some ha]
    rw [e1]
    unfold nodeW
    rw [spc_cons ha]
    by_cases h2 : 58 ∈ r
    · obtain ⟨a2, r2, ha2, rfl⟩ := split_at h2
      rw [rd_colon 5 h2, spc_cons ha2]
      cases h3 : spc 58 r2 with
      | nil => exact absurd h3 (spc_ne _ _)
      | cons x y => simp
    · rw [spc_word h2]
      cases h3 : rdB r 5 <;> simp [h3]
  · have e1 : rnode w = (mk w 0, false) := by unfold rnode; rw [cut_none h]; simp only [rd_nil]
    rw [e1]
    unfold nodeW
    rw [spc_word h]
    rfl
theorem rnode_name (w : List UInt8) : (rnode w).1.name.size ≤ w.length := by
  have e : (rnode w).1.name.data.toList = (Lib.cut w [58]).1 := by unfold rnode; split <;> rfl
  have e2 : (rnode w).1.name.size = (Lib.cut w [58]).1.length := by rw [← e]; simp
  rw [e2]
  by_cases h : 58 ∈ w
  · obtain ⟨a, r, ha, rfl⟩ := split_at h
    rw [cut_some ha]; simp
  · rw [cut_none h]; exact Nat.le_refl _
theorem mrd_rd {b : List UInt8} (h1 : 0 ≤ mrd b) (h2 : mrd b ≤ 5) : rdB b 5 = some (mrd b) := by
  have hm : inB b.length 1 10 = true ∧ firstB b = false ∧ b.all digB = true ∧ mrd b = val b := by
    unfold mrd at h1 ⊢
    split at h1
    · rename_i g1
      split at h1
      · omega
      · rename_i g2
        split at h1
        · rename_i g3
          split at h1
          · rename_i g4
            refine ⟨g1, by simpa using g2, g3, ?_⟩
            rw [if_pos g1, if_neg g2, if_pos g3, if_pos g4]
          · omega
        · omega
    · omega
  obtain ⟨g1, g2, g3, g4⟩ := hm
  have hp : plainB b = true := by
    unfold plainB
    simp only [inB, Bool.and_eq_true, decide_eq_true_eq] at g1
    rw [g2, g3]
    simp only [inB, Bool.and_eq_true, decide_eq_true_eq, Bool.not_false, and_true]
    omega
  have hr := rd_eq b
  rw [if_pos hp] at hr
  obtain ⟨q1, q2, q3⟩ := rd_some hr
  have : rdB (Lib.decDigits (val b).toNat) 5 = some (((val b).toNat : Nat) : Int) := rd_dec (by omega) (by omega)
  rw [← q3] at this
  rw [this, g4]
  congr 1
  omega
theorem W_to_M {w : List UInt8} {x : D} (h : nodeW w = some x) : nodeM w = some x := by
  unfold nodeW at h
  unfold nodeM
  split at h
  · rename_i a b e
    rw [Option.map_eq_some_iff] at h
    obtain ⟨v, h1, h2⟩ := h
    obtain ⟨q1, q2, q3⟩ := rd_some h1
    have : mrd b = v := by rw [q3, mrd_dec (by omega)]; omega
    rw [this, h2]
  · simp at h
theorem M_to_W {w : List UInt8} {x : D} (h : nodeM w = some x) (h1 : 1 ≤ x.weight) (h2 : x.weight ≤ 5) : nodeW w = some x := by
  unfold nodeM at h
  unfold nodeW
  split at h
  · rename_i a b e
    rw [Option.some.injEq] at h
    subst h
    simp only [mk] at h1 h2
    rw [mrd_rd (by omega) h2]; rfl
  · simp at h

/-! The nodes of a text. -/
def Rd (W : List (List UInt8)) (l : List D) : Prop := W.map nodeW = l.map some ∧ NodesM.gnB l = true
theorem map_some_inj {α : Type} {a b : List α} (h : a.map some = b.map some) : a = b := by
  induction a generalizing b with
  | nil => cases b with
    | nil => rfl
    | cons y b => simp at h
  | cons x a ih => cases b with
    | nil => simp at h
    | cons y b => simp only [List.map_cons, List.cons.injEq, Option.some.injEq] at h; rw [h.1, ih h.2]
theorem Rd.unique {W : List (List UInt8)} {a b : List D} (h1 : Rd W a) (h2 : Rd W b) : a = b := map_some_inj (h1.1.symm.trans h2.1)
def Got (f : List UInt8 → Option D) (W : List (List UInt8)) (k : Nat) (l : List D) : Prop := (W.take k).map f = l.map some
theorem got_start (f : List UInt8 → Option D) (W : List (List UInt8)) : Got f W 0 [] := by simp [Got]
theorem Got.len {f : List UInt8 → Option D} {W : List (List UInt8)} {k : Nat} {l : List D} (h : Got f W k l) (hk : k ≤ W.length) : l.length = k := by
  have := congrArg List.length h
  simp only [List.length_map, List.length_take] at this
  omega
theorem Got.step {f : List UInt8 → Option D} {W : List (List UInt8)} {k : Nat} {l : List D} {x : D} (h : Got f W k l) (hk : k < W.length) (hx : f (W.getD k []) = some x) : Got f W (k + 1) (l ++ [x]) := by
  unfold Got at *
  have e : W.getD k [] = W[k] := by simp [hk]
  rw [e] at hx
  rw [List.take_succ_eq_append_getElem hk, List.map_append, h, List.map_append]
  simp [hx]
theorem none_at {W : List (List UInt8)} {k : Nat} (hk : k < W.length) (hx : nodeW (W.getD k []) = none) (l : List D) : ¬ Rd W l := by
  intro h
  have e : W.getD k [] = W[k] := by simp [hk]
  rw [e] at hx
  have h1 : (W.map nodeW)[k]? = some none := by rw [List.getElem?_map, List.getElem?_eq_getElem hk]; simp [hx]
  rw [h.1, List.getElem?_map] at h1
  cases h2 : l[k]? with
  | none => rw [h2] at h1; simp at h1
  | some y => rw [h2] at h1; simp at h1
theorem M_none {w : List UInt8} (h : nodeM w = none) : nodeW w = none := by
  cases h2 : nodeW w with
  | none => rfl
  | some x => rw [W_to_M h2] at h; simp at h
theorem end_yes {W : List (List UInt8)} {l : List D} (h : Got nodeW W W.length l) (hg : NodesM.gnB l = true) : Rd W l := by
  unfold Got at h; rw [List.take_length] at h; exact ⟨h, hg⟩
theorem end_no {W : List (List UInt8)} {l : List D} (h : Got nodeW W W.length l) (hg : NodesM.gnB l = false) (m : List D) : ¬ Rd W m := by
  intro hm
  unfold Got at h; rw [List.take_length] at h
  have := map_some_inj (h.symm.trans hm.1)
  subst this
  rw [hm.2] at hg; simp at hg
theorem map_lift {W : List (List UInt8)} {m : List D} (h : W.map nodeW = m.map some) : W.map nodeM = m.map some := by
  induction W generalizing m with
  | nil => simpa using h
  | cons w W ih =>
    cases m with
    | nil => simp at h
    | cons x m =>
      simp only [List.map_cons, List.cons.injEq] at h ⊢
      exact ⟨W_to_M h.1, ih h.2⟩
theorem map_back {W : List (List UInt8)} {m : List D} (h : W.map nodeM = m.map some) (hg : ∀ x ∈ m, 1 ≤ x.weight ∧ x.weight ≤ 5) : W.map nodeW = m.map some := by
  induction W generalizing m with
  | nil => simpa using h
  | cons w W ih =>
    cases m with
    | nil => simp at h
    | cons x m =>
      simp only [List.map_cons, List.cons.injEq] at h ⊢
      have := hg x List.mem_cons_self
      exact ⟨M_to_W h.1 this.1 this.2, ih h.2 (fun y hy => hg y (List.mem_cons_of_mem _ hy))⟩
theorem gn_weights {l : List D} (h : NodesM.gnB l = true) (x : D) (hx : x ∈ l) : 1 ≤ x.weight ∧ x.weight ≤ 5 := by
  obtain ⟨k, hk, rfl⟩ := List.getElem_of_mem hx
  have := Nt.node_bd (Nt.gn_node h k hk)
  have e : l.getD k zero = l[k] := by simp [hk]
  rw [e] at this
  exact ⟨this.2.2.1, this.2.2.2⟩
theorem mend_yes {W : List (List UInt8)} {l : List D} (h : Got nodeM W W.length l) (hg : NodesM.gnB l = true) : Rd W l := by
  unfold Got at h; rw [List.take_length] at h
  exact ⟨map_back h (gn_weights hg), hg⟩
theorem mend_no {W : List (List UInt8)} {l : List D} (h : Got nodeM W W.length l) (hg : NodesM.gnB l = false) (m : List D) : ¬ Rd W m := by
  intro hm
  unfold Got at h; rw [List.take_length] at h
  have := map_some_inj (h.symm.trans (map_lift hm.1))
  subst this
  rw [hm.2] at hg; simp at hg

/-- How far a line has been split. -/
def SpTo (c : UInt8) (l : List UInt8) (ws : List ByteArray) (a i : Nat) : Prop :=
  (i ≤ l.length ∧ a ≤ i ∧ spc c l = ws.map bl ++ spc c (l.drop a) ∧ c ∉ (l.drop a).take (i - a)) ∨ (i = l.length + 1 ∧ spc c l = ws.map bl)
theorem spto_start (c : UInt8) (l : List UInt8) : SpTo c l [] 0 0 := .inl ⟨Nat.zero_le _, Nat.le_refl _, by simp, by simp⟩
theorem spto_skip {c : UInt8} {l : List UInt8} {ws : List ByteArray} {a i : Nat} (h : SpTo c l ws a i) (hi : i < l.length) (hc : l[i] ≠ c) : SpTo c l ws a (i + 1) := by
  rcases h with ⟨h1, h2, h3, h4⟩ | ⟨h1, _⟩
  · refine .inl ⟨by omega, by omega, h3, ?_⟩
    have e : (l.drop a).take (i + 1 - a) = (l.drop a).take (i - a) ++ [l[i]] := by
      rw [show i + 1 - a = (i - a) + 1 by omega, List.take_succ_eq_append_getElem (by rw [List.length_drop]; omega)]
      congr 2
      rw [List.getElem_drop]
      congr 1; omega
    rw [e]
    simp only [List.mem_append, List.mem_singleton, not_or]
    exact ⟨h4, fun e => hc e.symm⟩
  · omega
theorem spto_cut {c : UInt8} {s : ByteArray} {ws : List ByteArray} {a i : Nat} (h : SpTo c (bl s) ws a i) (hi : i < (bl s).length) (hc : (bl s)[i] = c) : SpTo c (bl s) (ws ++ [s.extract a i]) (i + 1) (i + 1) := by
  rcases h with ⟨h1, h2, h3, h4⟩ | ⟨h1, _⟩
  · refine .inl ⟨by omega, Nat.le_refl _, ?_, by simp⟩
    have e : (bl s).drop a = ((bl s).drop a).take (i - a) ++ c :: (bl s).drop (i + 1) := by
      conv => lhs; rw [← List.take_append_drop (i - a) ((bl s).drop a)]
      rw [List.drop_drop, show a + (i - a) = i by omega, List.drop_eq_getElem_cons hi, hc]
    rw [h3, e, spc_cons h4, List.map_append]
    simp [ext_bl]
  · omega
theorem spto_end {c : UInt8} {s : ByteArray} {ws : List ByteArray} {a : Nat} (h : SpTo c (bl s) ws a (bl s).length) : SpTo c (bl s) (ws ++ [s.extract a (bl s).length]) ((bl s).length + 1) ((bl s).length + 1) := by
  rcases h with ⟨h1, h2, h3, h4⟩ | ⟨h1, _⟩
  · refine .inr ⟨rfl, ?_⟩
    have e : ((bl s).drop a).take ((bl s).length - a) = (bl s).drop a := List.take_of_length_le (by rw [List.length_drop]; exact Nat.le_refl _)
    rw [e] at h4
    rw [h3, spc_word h4, List.map_append]
    simp only [List.map_cons, List.map_nil, ext_bl, e]
  · omega
end Rn
end Go.Proofs.YteiecijgmdbajaaDoor
