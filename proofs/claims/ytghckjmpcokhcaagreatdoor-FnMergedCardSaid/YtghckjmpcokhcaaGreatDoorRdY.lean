/-
  An item read from the front of a text, as plain data: what is told is read again, and nothing else is read. No Go function is spoken of here.
-/
import Derived.Test.YtghckjmpcokhcaaGreatDoorSpS
import Derived.Test.YtghckjmpcokhcaaGreatDoorValZ
import Derived.Test.YtghckjmpcokhcaaGreatDoorCntZ
namespace Go.Proofs.YtghckjmpcokhcaaGreatDoor
namespace Rd
open Go.RowKit Base Items Store GoodKey NumText Sp Count Vals
set_option linter.unusedVariables false

abbrev bl (s : ByteArray) : List UInt8 := s.data.toList
theorem bl_inj {a b : ByteArray} (h : bl a = bl b) : a = b := Go.WideShapes.bytes_inj h
theorem bl_app (a b : ByteArray) : bl (a ++ b) = bl a ++ bl b := by simp [bl]
theorem bl_len (a : ByteArray) : (bl a).length = a.size := by simp [bl]

/-! Numbers. -/
theorem rd_some {l : List UInt8} {most v : Int} (h : rdB l most = some v) : 0 ≤ v ∧ v ≤ most ∧ l = Lib.decDigits v.toNat := by
  unfold rdB at h
  split at h
  · rename_i u hu
    split at h
    · rename_i hc
      simp only [Option.some.injEq] at h
      subst h
      refine ⟨hc.1, hc.2.1, ?_⟩
      rw [← hc.2.2]; unfold Lib.itoa; rw [if_neg (by omega)]
    · simp at h
  · simp at h
theorem rd_dec {n : Nat} {most : Int} (h : (n : Int) ≤ most) (h2 : n < 1000000000000000000) : rdB (Lib.decDigits n) most = some (n : Int) := by
  have ha := atoi_plain (plain_dec h2)
  rw [(dec_props n).2.1] at ha
  unfold rdB
  rw [ha]
  dsimp only
  rw [if_pos ⟨by omega, h, by unfold Lib.itoa; rw [if_neg (by omega)]; simp⟩]
theorem dec_dig (n : Nat) : ∀ c ∈ Lib.decDigits n, 48 ≤ c.toNat ∧ c.toNat ≤ 57 := by
  intro c hc
  have := List.all_eq_true.1 (dec_props n).1 c hc
  simpa [digB] using this
theorem key_chars {l : List UInt8} (h : gk l = true) : ∀ c ∈ l, 33 ≤ c.toNat ∧ c.toNat ≤ 126 := by
  intro c hc
  unfold gk at h
  rw [Bool.and_eq_true] at h
  have := List.all_eq_true.1 h.2 c hc
  simpa [okb] using this
theorem no_byte {l : List UInt8} {b : UInt8} {lo : Nat} (h : ∀ c ∈ l, lo ≤ c.toNat) (hb : b.toNat < lo) : b ∉ l := fun hm => by have := h b hm; omega

/-! The state of the words. -/
structure St where
  ws : List ByteArray
  bad : Bool
def nx (s : St) : ByteArray × St := match s.ws with | [] => (ByteArray.empty, ⟨[], true⟩) | a :: r => (a, ⟨r, s.bad⟩)
def ky (s : St) : ByteArray × St := ((nx s).1, ⟨(nx s).2.ws, (nx s).2.bad || !gk (bl (nx s).1)⟩)
def nm (s : St) (most : Int) : Int × St := match rdB (bl (nx s).1) most with | some v => (v, (nx s).2) | none => (0, ⟨(nx s).2.ws, true⟩)
def wordS : ByteArray := ⟨#[86, 65, 76, 85, 69]⟩
structure Hd where
  word : ByteArray
  key : ByteArray
  flags : Int
  size : Int
  token : Int
  st : St
def hd (ws : List ByteArray) (token : Bool) : Hd :=
  let a := nx ⟨ws, false⟩
  let k := ky a.2
  let f := nm k.2 1000000000
  let n := nm f.2 100
  let t := if token then nm n.2 1000000000 else (0, n.2)
  ⟨a.1, k.1, f.1, n.1, t.1, t.2⟩
def item (h : Hd) (d : ByteArray) : Itm := ⟨h.key, h.flags, d, 0, h.token⟩
def okH (h : Hd) (token : Bool) : Bool := decide (h.word = wordS) && !h.st.bad && decide (h.st.ws = []) && goodV (item h ByteArray.empty) token
/-- What must stand in the words. -/
def wordsOf (x : Itm) (token : Bool) : List (List UInt8) := bl wordS :: bl x.key :: Lib.decDigits x.flags.toNat :: Lib.decDigits x.data.size :: (if token then [Lib.decDigits x.token.toNat] else [])
def Canon (x : Itm) (token : Bool) : Prop := x.upto = 0 ∧ (token = false → x.token = 0)

theorem nx_bad {s : St} (h : s.bad = true) : (nx s).2.bad = true := by unfold nx; split <;> simp [h]
theorem nx_ok {s : St} (h : (nx s).2.bad = false) : ∃ a r, s.ws = a :: r ∧ s.bad = false ∧ nx s = (a, ⟨r, false⟩) := by
  unfold nx at h ⊢
  split
  · rename_i e; rw [e] at h; simp at h
  · rename_i a r e; rw [e] at h; simp at h; exact ⟨a, r, e, h, by rw [h]⟩
theorem ky_ok {s : St} (h : (ky s).2.bad = false) : ∃ a r, s.ws = a :: r ∧ s.bad = false ∧ ky s = (a, ⟨r, false⟩) ∧ gk (bl a) = true := by
  unfold ky at h ⊢
  simp only [Bool.or_eq_false_iff, Bool.not_eq_false'] at h
  obtain ⟨a, r, h1, h2, h3⟩ := nx_ok h.1
  rw [h3] at h ⊢
  exact ⟨a, r, h1, h2, by simp [h.2], h.2⟩
theorem nm_ok {s : St} {most : Int} (h : (nm s most).2.bad = false) : ∃ a r v, s.ws = a :: r ∧ s.bad = false ∧ nm s most = (v, ⟨r, false⟩) ∧ rdB (bl a) most = some v := by
  unfold nm at h ⊢
  split at h
  · rename_i v hv
    obtain ⟨a, r, h1, h2, h3⟩ := nx_ok h
    rw [h3] at hv ⊢
    exact ⟨a, r, v, h1, h2, by simp, hv⟩
  · simp at h
theorem st_eta (s : St) : s = ⟨s.ws, s.bad⟩ := rfl
/-- Nothing else is read. -/
theorem hd_sound {ws : List ByteArray} {token : Bool} (h : okH (hd ws token) token = true) : ∃ n : Nat, (hd ws token).size = n ∧ n ≤ 100 ∧ ∀ d : ByteArray, d.size = n → ws.map bl = wordsOf (item (hd ws token) d) token ∧ goodV (item (hd ws token) d) token = true ∧ Canon (item (hd ws token) d) token := by
  unfold okH at h
  simp only [Bool.and_eq_true, decide_eq_true_eq, Bool.not_eq_true'] at h
  obtain ⟨⟨⟨h1, h2⟩, h3⟩, h4⟩ := h
  unfold hd at h1 h2 h3 h4 ⊢
  cases token
  · simp only [Bool.false_eq_true, if_false] at h1 h2 h3 h4 ⊢
    obtain ⟨a4, r4, v4, e4, b4, q4, m4⟩ := nm_ok h2
    rw [q4] at h3 h4 ⊢
    simp only at h3 h4
    obtain ⟨a3, r3, v3, e3, b3, q3, m3⟩ := nm_ok b4
    rw [q3] at e4 h4 ⊢
    simp only at e4 h4
    obtain ⟨a2, r2, e2, b2, q2, m2⟩ := ky_ok b3
    rw [q2] at e3 h4 ⊢
    simp only at e3 h4
    obtain ⟨a1, r1, e1, b1, q1⟩ := nx_ok b2
    rw [q1] at e2 h1
    simp only at e1 e2 h1
    obtain ⟨n1, n2, n3⟩ := rd_some m4
    obtain ⟨f1, f2, f3⟩ := rd_some m3
    refine ⟨v4.toNat, by simp; omega, by omega, fun d hd => ⟨?_, ?_, ?_⟩⟩
    · subst e1 e2 e3 e4 h3
      simp only [wordsOf, item, List.map_cons, List.map_nil, Bool.false_eq_true, if_false, h1, f3, n3, hd]
    · rw [goodV_iff]
      simp only [item]
      exact ⟨m2, f1, f2, by rw [hd]; omega, by simp⟩
    · exact ⟨rfl, fun _ => rfl⟩
  · simp only [if_true] at h1 h2 h3 h4 ⊢
    obtain ⟨a5, r5, v5, e5, b5, q5, m5⟩ := nm_ok h2
    rw [q5] at h3 h4 ⊢
    simp only at h3 h4
    obtain ⟨a4, r4, v4, e4, b4, q4, m4⟩ := nm_ok b5
    rw [q4] at e5 h4 ⊢
    simp only at e5 h4
    obtain ⟨a3, r3, v3, e3, b3, q3, m3⟩ := nm_ok b4
    rw [q3] at e4 h4 ⊢
    simp only at e4 h4
    obtain ⟨a2, r2, e2, b2, q2, m2⟩ := ky_ok b3
    rw [q2] at e3 h4 ⊢
    simp only at e3 h4
    obtain ⟨a1, r1, e1, b1, q1⟩ := nx_ok b2
    rw [q1] at e2 h1
    simp only at e1 e2 h1
    obtain ⟨t1, t2, t3⟩ := rd_some m5
    obtain ⟨n1, n2, n3⟩ := rd_some m4
    obtain ⟨f1, f2, f3⟩ := rd_some m3
    have hg := (goodV_iff _ _).1 h4
    refine ⟨v4.toNat, by simp; omega, by omega, fun d hd => ⟨?_, ?_, ?_⟩⟩
    · subst e1 e2 e3 e4 e5 h3
      simp only [wordsOf, item, List.map_cons, List.map_nil, if_true, h1, f3, n3, t3, hd]
    · rw [goodV_iff]
      simp only [item]
      exact ⟨m2, f1, f2, by rw [hd]; omega, fun _ => hg.2.2.2.2 rfl⟩
    · exact ⟨rfl, by simp⟩
theorem len4 {α : Type} {l : List α} (h : l.length = 4) : ∃ a b c d, l = [a, b, c, d] := by
  match l, h with
  | [a, b, c, d], _ => exact ⟨a, b, c, d, rfl⟩
theorem len5 {α : Type} {l : List α} (h : l.length = 5) : ∃ a b c d e, l = [a, b, c, d, e] := by
  match l, h with
  | [a, b, c, d, e], _ => exact ⟨a, b, c, d, e, rfl⟩
/-- What is told is read again. -/
theorem hd_complete {x : Itm} {token : Bool} (hg : goodV x token = true) (hc : Canon x token) {ws : List ByteArray} (hw : ws.map bl = wordsOf x token) : okH (hd ws token) token = true ∧ (hd ws token).size = x.data.size ∧ item (hd ws token) x.data = x := by
  obtain ⟨g1, g2, g3, g4, g5⟩ := (goodV_iff _ _).1 hg
  obtain ⟨c1, c2⟩ := hc
  unfold wordsOf at hw
  cases token
  · simp only [Bool.false_eq_true, if_false] at hw
    obtain ⟨a1, a2, a3, a4, rfl⟩ := len4 (by simpa using congrArg List.length hw)
    simp only [List.map_cons, List.map_nil, List.cons.injEq, and_true] at hw
    obtain ⟨w1, w2, w3, w4⟩ := hw
    have e1 := bl_inj w1
    have e2 := bl_inj w2
    subst e1 e2
    have r3 := rd_dec (n := x.flags.toNat) (most := 1000000000) (by omega) (by omega)
    have r4 := rd_dec (n := x.data.size) (most := 100) (by omega) (by omega)
    rw [← w3] at r3
    rw [← w4] at r4
    have hh : hd [wordS, x.key, a3, a4] false = ⟨wordS, x.key, (x.flags.toNat : Int), (x.data.size : Int), 0, ⟨[], false⟩⟩ := by
      simp only [hd, nx, ky, nm, r3, r4, g1, Bool.not_true, Bool.or_false, Bool.false_eq_true, if_false]
    rw [hh]
    refine ⟨?_, rfl, ?_⟩
    · unfold okH item
      simp only [decide_true, Bool.not_false, Bool.and_self, Bool.true_and]
      rw [goodV_iff]
      exact ⟨g1, by dsimp only; omega, by dsimp only; omega, by simp, by simp⟩
    · refine Itm.ext' rfl ?_ rfl c1.symm ?_
      · simp only [item]; omega
      · simp only [item]; exact (c2 rfl).symm
  · simp only [if_true] at hw
    obtain ⟨a1, a2, a3, a4, a5, rfl⟩ := len5 (by simpa using congrArg List.length hw)
    simp only [List.map_cons, List.map_nil, List.cons.injEq, and_true] at hw
    obtain ⟨w1, w2, w3, w4, w5⟩ := hw
    have e1 := bl_inj w1
    have e2 := bl_inj w2
    subst e1 e2
    have g5 := g5 rfl
    have r3 := rd_dec (n := x.flags.toNat) (most := 1000000000) (by omega) (by omega)
    have r4 := rd_dec (n := x.data.size) (most := 100) (by omega) (by omega)
    have r5 := rd_dec (n := x.token.toNat) (most := 1000000000) (by omega) (by omega)
    rw [← w3] at r3
    rw [← w4] at r4
    rw [← w5] at r5
    have hh : hd [wordS, x.key, a3, a4, a5] true = ⟨wordS, x.key, (x.flags.toNat : Int), (x.data.size : Int), (x.token.toNat : Int), ⟨[], false⟩⟩ := by
      simp only [hd, nx, ky, nm, r3, r4, r5, g1, Bool.not_true, Bool.or_false, if_true]
    rw [hh]
    refine ⟨?_, rfl, ?_⟩
    · unfold okH item
      simp only [decide_true, Bool.not_false, Bool.and_self, Bool.true_and]
      rw [goodV_iff]
      exact ⟨g1, by dsimp only; omega, by dsimp only; omega, by simp, fun _ => by dsimp only; omega⟩
    · refine Itm.ext' rfl ?_ rfl c1.symm ?_
      · simp only [item]; omega
      · simp only [item]; omega
/-! A text: its first line, and what is behind it. -/
def lineB (s : ByteArray) : ByteArray := ⟨(Lib.cut (bl s) [13, 10]).1.toArray⟩
def restB (s : ByteArray) : ByteArray := ⟨(Lib.cut (bl s) [13, 10]).2.1.toArray⟩
def wordsB (s : ByteArray) : List ByteArray := Lib.splitB ⟨#[32]⟩ 0 (Lib.countB s ⟨#[32]⟩) s
theorem words_sp (s : ByteArray) : (wordsB s).map bl = sp (bl s) := splitB_sp s
/-- The item at the front, and what is behind it. -/
def rv (s : ByteArray) (token : Bool) : Option (Itm × ByteArray) :=
  if okH (hd (wordsB (lineB s)) token) token = true then
    if (restB s).size < (hd (wordsB (lineB s)) token).size.toNat + 2 then none
    else if (restB s).extract (hd (wordsB (lineB s)) token).size.toNat ((hd (wordsB (lineB s)) token).size.toNat + 2) = Shelf.endS then
      some (item (hd (wordsB (lineB s)) token) ((restB s).extract 0 (hd (wordsB (lineB s)) token).size.toNat), (restB s).extract ((hd (wordsB (lineB s)) token).size.toNat + 2) (restB s).size)
    else none
  else none
theorem cut_hit {s : List UInt8} {a r : List UInt8} (h : s = a ++ 13 :: 10 :: r) (ha : 13 ∉ a) : Lib.cut s [13, 10] = (a, r, true) := by
  have hi : Lib.index s [13, 10] = a.length := by
    apply Lib.index_first
    · rw [h]; simp
    · unfold Lib.occAt; rw [h, List.drop_left]; simp [List.isPrefixOf]
    · intro j hj
      cases e : Lib.occAt s [13, 10] j
      · rfl
      · have := Lib.occAt_head rfl e
        rw [h, List.getElem?_append_left hj] at this
        exact absurd (List.mem_of_getElem? this) ha
  unfold Lib.cut
  rw [hi, if_pos (by omega)]
  subst h
  simp
theorem cut_cases (s : List UInt8) : (Lib.cut s [13, 10] = (s, [], false)) ∨ (∃ a r, s = a ++ 13 :: 10 :: r ∧ Lib.cut s [13, 10] = (a, r, true)) := by
  rcases Lib.index_spec s [13, 10] with ⟨h, _⟩ | ⟨i, h1, h2, h3, _⟩
  · left; unfold Lib.cut; rw [h, if_neg (by decide)]
  · right
    refine ⟨s.take i, s.drop (i + 2), ?_, ?_⟩
    · unfold Lib.occAt at h3
      obtain ⟨t, ht⟩ := List.isPrefixOf_iff_prefix.1 h3
      have e : s.drop (i + 2) = t := by
        rw [← List.drop_drop, ← ht]; rfl
      rw [e]
      conv => lhs; rw [← List.take_append_drop i s, ← ht]
      rfl
    · unfold Lib.cut
      rw [h1, if_pos (by omega)]
      simp
theorem value_bl (x : Itm) (token : Bool) : bl (Shelf.valueR x token) = join (wordsOf x token) ++ 13 :: 10 :: (bl x.data ++ [13, 10]) := by
  have e1 : bl Shelf.valueS = bl wordS ++ [32] := rfl
  have e2 : bl Shelf.blankS = [32] := rfl
  have e3 : bl Shelf.endS = [13, 10] := rfl
  have et : ∀ n, bl (txt n) = Lib.decDigits n := fun n => rfl
  cases token
  · simp only [Shelf.valueR, Shelf.lineR, wordsOf, Bool.false_eq_true, if_false, bl_app, e1, e2, e3, et, join, List.append_assoc, List.cons_append, List.nil_append]
  · simp only [Shelf.valueR, Shelf.lineR, wordsOf, if_true, bl_app, e1, e2, e3, et, join, List.append_assoc, List.cons_append, List.nil_append]
theorem ext_bl (s : ByteArray) (a b : Nat) : bl (s.extract a b) = ((bl s).drop a).take (b - a) := by
  simp [bl]
/-- Nothing else is read. -/
theorem rv_sound {s r : ByteArray} {x : Itm} {token : Bool} (h : rv s token = some (x, r)) : s = Shelf.valueR x token ++ r ∧ goodV x token = true ∧ Canon x token := by
  unfold rv at h
  split at h
  · rename_i h1
    split at h
    · simp at h
    · rename_i h2
      split at h
      · rename_i h3
        simp only [Option.some.injEq, Prod.mk.injEq] at h
        obtain ⟨rfl, rfl⟩ := h
        obtain ⟨n, hn, hn100, hall⟩ := hd_sound h1
        rw [hn, Int.toNat_natCast] at h2 h3 ⊢
        have hds : ((restB s).extract 0 n).size = n := by simp; omega
        obtain ⟨q1, q2, q3⟩ := hall _ hds
        refine ⟨?_, q2, q3⟩
        have hne : (restB s).size ≠ 0 := by omega
        rcases cut_cases (bl s) with hc | ⟨a, r', hs, hc⟩
        · exact absurd (show (restB s).size = 0 by unfold restB; rw [hc]; rfl) hne
        · have eL : bl (lineB s) = a := by unfold lineB bl; rw [show s.data.toList = bl s from rfl, hc]
          have eR : bl (restB s) = r' := by unfold restB bl; rw [show s.data.toList = bl s from rfl, hc]
          rw [words_sp, eL] at q1
          have ej : a = join (wordsOf (item (hd (wordsB (lineB s)) token) ((restB s).extract 0 n)) token) := by rw [← q1, join_sp]
          apply bl_inj
          rw [bl_app, value_bl, ← ej, hs]
          have h3' := congrArg bl h3
          rw [ext_bl, eR] at h3'
          have ed : bl (item (hd (wordsB (lineB s)) token) ((restB s).extract 0 n)).data = r'.take n := by
            show bl ((restB s).extract 0 n) = _
            rw [ext_bl, eR]; simp
          rw [ext_bl, ed, eR]
          have e3 : bl Shelf.endS = [13, 10] := rfl
          rw [e3] at h3'
          have hz : (restB s).size = r'.length := by rw [← bl_len, eR]
          have er : r' = r'.take n ++ ([13, 10] ++ r'.drop (n + 2)) := by
            rw [← h3', show n + 2 - n = 2 by omega, ← List.drop_drop, List.take_append_drop, List.take_append_drop]
          have et : List.take ((restB s).size - (n + 2)) (List.drop (n + 2) r') = List.drop (n + 2) r' := List.take_of_length_le (by rw [List.length_drop, hz]; exact Nat.le_refl _)
          rw [et]
          simp only [List.append_assoc, List.cons_append, List.nil_append]
          have er2 : r' = List.take n r' ++ 13 :: 10 :: List.drop (n + 2) r' := by simpa using er
          rw [← er2]
      · simp at h
  · simp at h
/-- What is told is read again. -/
theorem rv_complete {x : Itm} {token : Bool} (hg : goodV x token = true) (hc : Canon x token) (r : ByteArray) : rv (Shelf.valueR x token ++ r) token = some (x, r) := by
  obtain ⟨g1, g2, g3, g4, g5⟩ := (goodV_iff _ _).1 hg
  have w13 : ∀ a ∈ wordsOf x token, (32 ∉ a) ∧ (13 ∉ a) := by
    have hw : (32 : UInt8) ∉ bl wordS ∧ (13 : UInt8) ∉ bl wordS := by decide
    have hk : (32 : UInt8) ∉ bl x.key ∧ (13 : UInt8) ∉ bl x.key := ⟨no_byte (lo := 33) (fun c hc => (key_chars g1 c hc).1) (by decide), no_byte (lo := 33) (fun c hc => (key_chars g1 c hc).1) (by decide)⟩
    have hd' : ∀ n, (32 : UInt8) ∉ Lib.decDigits n ∧ (13 : UInt8) ∉ Lib.decDigits n := fun n => ⟨no_byte (lo := 48) (fun c hc => (dec_dig n c hc).1) (by decide), no_byte (lo := 48) (fun c hc => (dec_dig n c hc).1) (by decide)⟩
    intro a ha
    unfold wordsOf at ha
    simp only [List.mem_cons] at ha
    rcases ha with rfl | rfl | rfl | rfl | ha
    · exact hw
    · exact hk
    · exact hd' _
    · exact hd' _
    · cases token
      · simp at ha
      · simp at ha; subst ha; exact hd' _
  have hsp : ∀ ws : List (List UInt8), ws ≠ [] → (∀ a ∈ ws, (32 ∉ a) ∧ (13 ∉ a)) → sp (join ws) = ws ∧ 13 ∉ join ws := by
    intro ws
    induction ws with
    | nil => intro h; exact absurd rfl h
    | cons a t ih =>
      intro _ hh
      have ha := hh a (by simp)
      by_cases ht : t = []
      · subst ht; exact ⟨sp_word ha.1, ha.2⟩
      · obtain ⟨i1, i2⟩ := ih ht (fun b hb => hh b (by simp [hb]))
        rw [join_cons ht, sp_cons ha.1, i1]
        refine ⟨rfl, ?_⟩
        simp only [List.mem_append, List.mem_cons, not_or]
        exact ⟨ha.2, by decide, i2⟩
  obtain ⟨s1, s2⟩ := hsp (wordsOf x token) (by simp [wordsOf]) w13
  have hs : bl (Shelf.valueR x token ++ r) = join (wordsOf x token) ++ 13 :: 10 :: (bl x.data ++ [13, 10] ++ bl r) := by
    rw [bl_app, value_bl]; simp
  have hcut := cut_hit hs s2
  have eL : bl (lineB (Shelf.valueR x token ++ r)) = join (wordsOf x token) := by unfold lineB; rw [hcut]
  have eR : bl (restB (Shelf.valueR x token ++ r)) = bl x.data ++ [13, 10] ++ bl r := by unfold restB; rw [hcut]
  obtain ⟨c1, c2, c3⟩ := hd_complete hg hc (ws := wordsB (lineB (Shelf.valueR x token ++ r))) (by rw [words_sp, eL, s1])
  have hz : (restB (Shelf.valueR x token ++ r)).size = x.data.size + 2 + r.size := by rw [← bl_len, eR]; simp [bl]; omega
  have e0 : (restB (Shelf.valueR x token ++ r)).extract 0 x.data.size = x.data := by
    apply bl_inj; rw [ext_bl, eR]; simp [bl]
  have e1 : (restB (Shelf.valueR x token ++ r)).extract x.data.size (x.data.size + 2) = Shelf.endS := by
    apply bl_inj; rw [ext_bl, eR]
    have : (bl x.data ++ [13, 10] ++ bl r).drop x.data.size = [13, 10] ++ bl r := by
      rw [List.append_assoc, List.drop_append_of_le_length (by rw [bl_len]; exact Nat.le_refl _), List.drop_of_length_le (by rw [bl_len]; exact Nat.le_refl _)]; rfl
    rw [this, show x.data.size + 2 - x.data.size = 2 by omega]; rfl
  have e2 : (restB (Shelf.valueR x token ++ r)).extract (x.data.size + 2) (restB (Shelf.valueR x token ++ r)).size = r := by
    apply bl_inj; rw [ext_bl, eR, hz]
    have : (bl x.data ++ [13, 10] ++ bl r).drop (x.data.size + 2) = bl r := by
      rw [List.drop_append_of_le_length (by simp [bl]), List.drop_of_length_le (by simp [bl])]; rfl
    rw [this, List.take_of_length_le (by rw [bl_len]; omega)]
  unfold rv
  rw [if_pos c1, c2, Int.toNat_natCast, if_neg (by omega), e1, if_pos rfl, e0, e2, c3]
end Rd
end Go.Proofs.YtghckjmpcokhcaaGreatDoor
/-
  The items of which a text is the ValuesText, as plain data. No Go function is spoken of here.
-/
namespace Go.Proofs.YtghckjmpcokhcaaGreatDoor
namespace Rd
open Go.RowKit Base Items Store GoodKey NumText Sp Count Vals
set_option linter.unusedVariables false

def Okay (token : Bool) (l : List Itm) : Prop := ∀ x ∈ l, goodV x token = true ∧ Canon x token
structure Reads (s : ByteArray) (token : Bool) (l : List Itm) : Prop where
  len : l.length ≤ 60
  ok : Okay token l
  txt : told token l ++ lastS = s
theorem rv_last (token : Bool) : rv lastS token = none := by
  cases h : rv lastS token with
  | none => rfl
  | some p =>
    obtain ⟨x, r⟩ := p
    obtain ⟨h1, _, _⟩ := rv_sound h
    have e := congrArg (fun b => (bl b).head?) h1
    simp only [bl_app, value_bl] at e
    have e1 : (bl lastS).head? = some 69 := rfl
    rw [e1] at e
    unfold wordsOf join at e
    have e2 : bl wordS = [86, 65, 76, 85, 69] := rfl
    rw [e2] at e
    simp at e
theorem value_ne (x : Itm) (token : Bool) : 0 < (Shelf.valueR x token).size := by
  rw [← bl_len, value_bl, List.length_append, List.length_cons]; omega
theorem told_cons (token : Bool) (x : Itm) (l : List Itm) : told token (x :: l) = Shelf.valueR x token ++ told token l := rfl
/-- What has been read is a beginning of what can be read. -/
theorem prefix_of {token : Bool} {its L : List Itm} {cur : ByteArray} (h1 : Okay token its) (h2 : Okay token L) (h : told token L ++ lastS = told token its ++ cur) : ∃ L', L = its ++ L' ∧ cur = told token L' ++ lastS := by
  induction its generalizing L with
  | nil => exact ⟨L, rfl, by rw [h]; simp [told]⟩
  | cons x its ih =>
    have hx := h1 x (by simp)
    rw [told_cons, ByteArray.append_assoc] at h
    have hr := rv_complete hx.1 hx.2 (told token its ++ cur)
    rw [← h] at hr
    cases L with
    | nil =>
      have : told token [] ++ lastS = lastS := by simp [told]
      rw [this, rv_last] at hr
      exact absurd hr (by simp)
    | cons y L =>
      have hy := h2 y (by simp)
      rw [told_cons, ByteArray.append_assoc, rv_complete hy.1 hy.2] at hr
      simp only [Option.some.injEq, Prod.mk.injEq] at hr
      obtain ⟨rfl, hr⟩ := hr
      obtain ⟨L', e1, e2⟩ := ih (fun z hz => h1 z (by simp [hz])) (fun z hz => h2 z (by simp [hz])) hr
      exact ⟨L', by rw [e1]; rfl, e2⟩
theorem reads_unique {s : ByteArray} {token : Bool} {l m : List Itm} (h1 : Reads s token l) (h2 : Reads s token m) : l = m := by
  obtain ⟨L', e1, e2⟩ := prefix_of (cur := lastS) h1.ok h2.ok (by rw [h2.txt, h1.txt])
  cases L' with
  | nil => rw [e1]; simp
  | cons y L' =>
    have := congrArg ByteArray.size e2
    have := value_ne y token
    simp only [told, ByteArray.size_append] at *
    omega
open Classical in
/-- What ReadValues tells. -/
noncomputable def rdR (s : ByteArray) (token : Bool) : Option (List Itm) := if h : ∃ l, Reads s token l then some (Classical.choose h) else none
theorem rdR_some {s : ByteArray} {token : Bool} {l : List Itm} (h : Reads s token l) : rdR s token = some l := by
  have hex : ∃ l, Reads s token l := ⟨l, h⟩
  unfold rdR
  rw [dif_pos hex, reads_unique (Classical.choose_spec hex) h]
theorem rdR_none {s : ByteArray} {token : Bool} (h : ∀ l, ¬ Reads s token l) : rdR s token = none := by
  unfold rdR
  rw [dif_neg (fun ⟨l, hl⟩ => h l hl)]
/-- How far the program has read. -/
structure Far (s : ByteArray) (token : Bool) (its : List Itm) (cur : ByteArray) : Prop where
  len : its.length ≤ 60
  ok : Okay token its
  txt : s = told token its ++ cur
theorem far_start (s : ByteArray) (token : Bool) : Far s token [] s := ⟨Nat.zero_le _, by simp [Okay], by simp [told]⟩
theorem far_done {s : ByteArray} {token : Bool} {its : List Itm} (h : Far s token its lastS) : rdR s token = some its := rdR_some ⟨h.len, h.ok, h.txt.symm⟩
theorem far_stuck {s cur : ByteArray} {token : Bool} {its : List Itm} (h : Far s token its cur) (hne : cur ≠ lastS) (hr : rv cur token = none) : rdR s token = none := by
  refine rdR_none (fun L hL => ?_)
  obtain ⟨L', e1, e2⟩ := prefix_of h.ok hL.ok (by rw [hL.txt, ← h.txt])
  cases L' with
  | nil => exact hne (by rw [e2]; simp [told])
  | cons y L' =>
    have hy := hL.ok y (by rw [e1]; simp)
    rw [e2, told_cons, ByteArray.append_assoc, rv_complete hy.1 hy.2] at hr
    exact absurd hr (by simp)
theorem far_full {s cur : ByteArray} {token : Bool} {its : List Itm} (h : Far s token its cur) (hne : cur ≠ lastS) (h60 : its.length = 60) : rdR s token = none := by
  refine rdR_none (fun L hL => ?_)
  obtain ⟨L', e1, e2⟩ := prefix_of h.ok hL.ok (by rw [hL.txt, ← h.txt])
  cases L' with
  | nil => exact hne (by rw [e2]; simp [told])
  | cons y L' =>
    have := hL.len
    rw [e1, List.length_append, List.length_cons] at this
    omega
theorem far_step {s cur r : ByteArray} {token : Bool} {its : List Itm} {x : Itm} (h : Far s token its cur) (h60 : its.length ≠ 60) (hr : rv cur token = some (x, r)) : Far s token (its ++ [x]) r ∧ r.size < cur.size := by
  obtain ⟨h1, h2, h3⟩ := rv_sound hr
  refine ⟨⟨?_, ?_, ?_⟩, ?_⟩
  · have := h.len; rw [List.length_append]; simp; omega
  · intro y hy
    rw [List.mem_append] at hy
    rcases hy with hy | hy
    · exact h.ok y hy
    · simp at hy; subst hy; exact ⟨h2, h3⟩
  · rw [h.txt, told_append, h1]
    have e : told token [x] = Shelf.valueR x token := by simp [told]
    rw [e, ByteArray.append_assoc]
  · have := value_ne x token
    rw [h1, ByteArray.size_append]; omega
end Rd
end Go.Proofs.YtghckjmpcokhcaaGreatDoor
