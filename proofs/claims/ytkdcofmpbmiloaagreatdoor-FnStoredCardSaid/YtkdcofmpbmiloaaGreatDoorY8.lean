/-
  The program's valueText: an item as it is told.
-/
import Derived.Test.YtkdcofmpbmiloaaGreatDoorY6
import Derived.Test.YtkdcofmpbmiloaaGreatDoorY7
import Derived.Deep.RegionHeld3
import Derived.Outline
import Derived.Deep.RegionWith
namespace Go.Proofs.YtkdcofmpbmiloaaGreatDoor
namespace Shelf
open Go.RowKit Base Items Keep Own Chain Store GoodKey NumText
set_option linter.unusedVariables false

theorem valueText_any (x : Itm) (token : Bool) (w : World) (hx : Small x) (h1 : 0 ≤ x.flags ∧ x.flags ≤ 1000000000) (h2 : 0 ≤ x.token ∧ x.token ≤ 1000000000) (hv : Count.Vars w) :
    Calls Tryz.prog 89 #[.agg #[.string x.key, .int .i64 x.flags, .string x.data, .int .i64 x.upto, .int .i64 x.token], .bool token] w fun e w' => e = .returned (.string (valueR x token)) ∧ Below w.heap.size w w' := valueText_gen x token w hx h1 (fun _ => h2) hv.tab
end Shelf
end Go.Proofs.YtkdcofmpbmiloaaGreatDoor
/-
  The model's l2Until and l2Value: an item as it is told.
-/
namespace Go.Proofs.YtkdcofmpbmiloaaGreatDoor
namespace Shelf
open Go.RowKit Base Items Keep Own Chain Store GoodKey NumText
set_option linter.unusedVariables false

set_option maxRecDepth 10000 in
set_option maxHeartbeats 1000000 in
theorem l2Until_any (now expire : Int) (w : World) (h1 : 0 ≤ now ∧ now ≤ 1000000000) (h2 : 0 ≤ expire ∧ expire ≤ 1000000000) :
    Calls Tryz.prog 86 #[.int .i64 now, .int .i64 expire] w fun e w' => e = .returned (.int .i64 (untilR now expire)) ∧ w = w' := by
  by_cases g : expire = 0
  · subst g
    have e : untilR now 0 = 0 := rfl
    rw [e]
    go_enter Tryz.func86, Tryz.ntmps86
    go_wp2
    go_ret
    exact ⟨rfl, rfl⟩
  · have e : untilR now expire = now + expire := if_neg g
    rw [e]
    have hw : IntKind.i64.wrap (now + expire) = now + expire := by rw [IntKind.wrap_i64]; omega
    have hd : decide (expire = 0) = false := decide_eq_false g
    go_enter Tryz.func86, Tryz.ntmps86
    go_wp2
    go_ret
    exact ⟨rfl, rfl⟩

theorem l2Value_any (x : Itm) (token : Bool) (w : World) (hx : Small x) (h1 : 0 ≤ x.flags ∧ x.flags ≤ 1000000000) (h2 : 0 ≤ x.token ∧ x.token ≤ 1000000000) :
    Calls Tryz.prog 71 #[.agg #[.string x.key, .int .i64 x.flags, .string x.data, .int .i64 x.upto, .int .i64 x.token], .bool token] w fun e w' => e = .returned (.string (valueR x token)) ∧ Below w.heap.size w w' := l2Value_gen x token w hx h1 (fun _ => h2)
end Shelf
end Go.Proofs.YtkdcofmpbmiloaaGreatDoor
/-
  The program's shelf over a base: what was there ahead of it is as it was; and tell: get, gets.
-/
namespace Go.Proofs.YtkdcofmpbmiloaaGreatDoor
namespace Shelf
open Go.RowKit Base Items Keep Own Chain Store GoodKey NumText
set_option linter.unusedVariables false

/-- A shelf whose blocks all lie behind what was there; and some blocks more that are kept. -/
def Sh (G : List (Nat × Obj)) (w0 w : World) (hb : Nat) (lim nx lost : Int) (its : List Itm) : Prop := ∃ S, Shelf w hb S lim nx lost its ∧ (∀ b ∈ S, w0.heap.size ≤ b ∧ ∀ g ∈ G, b ≠ g.1) ∧ Below w0.heap.size w0 w ∧ ∀ g ∈ G, w.heap[g.1]? = some g.2
theorem lt_of_get {w : World} {b : Nat} {o : Obj} (h : w.heap[b]? = some o) : b < w.heap.size := by
  obtain ⟨h1, _⟩ := Array.getElem?_eq_some_iff.1 h
  exact h1
theorem sh_step {G : List (Nat × Obj)} {w0 w w' : World} {hb : Nat} {S : List Nat} {lim nx lost : Int} {its : List Itm} (hS0 : ∀ b ∈ S, w0.heap.size ≤ b ∧ ∀ g ∈ G, b ≠ g.1) (hb0 : Below w0.heap.size w0 w ∧ ∀ g ∈ G, w.heap[g.1]? = some g.2) (hst : Step w w' hb S lim nx lost its) : Sh G w0 w' hb lim nx lost its := by
  obtain ⟨S', hs', hS', hk⟩ := hst
  exact ⟨S', hs', fun b h => (hS' b h).elim (hS0 b) (fun h => ⟨Nat.le_trans hb0.1.size h, fun g hg => by have := lt_of_get (hb0.2 g hg); omega⟩), hb0.1.trans (hk.below (fun b h => (hS0 b h).1) hb0.1.size), fun g hg => (hk.block _ (lt_of_get (hb0.2 g hg)) (fun h => (hS0 _ h).2 g hg rfl)).trans (hb0.2 g hg)⟩
theorem Sh.bel {G : List (Nat × Obj)} {w0 w : World} {hb : Nat} {lim nx lost : Int} {its : List Itm} (h : Sh G w0 w hb lim nx lost its) : Below w0.heap.size w0 w := h.choose_spec.2.2.1
theorem Sh.box {G : List (Nat × Obj)} {w0 w : World} {hb : Nat} {lim nx lost : Int} {its : List Itm} (h : Sh G w0 w hb lim nx lost its) : ∀ g ∈ G, w.heap[g.1]? = some g.2 := h.choose_spec.2.2.2
theorem Sh.below {G : List (Nat × Obj)} {w0 w w' : World} {hb : Nat} {lim nx lost : Int} {its : List Itm} (h : Sh G w0 w hb lim nx lost its) (hb' : Below w.heap.size w w') : Sh G w0 w' hb lim nx lost its := by
  obtain ⟨S, hs, hS0, hb0, hg⟩ := h
  exact ⟨S, hs.below hb', hS0, hb0.trans (hb'.mono hb0.size), fun g hm => (hb'.block _ (lt_of_get (hg g hm))).trans (hg g hm)⟩
theorem Sh.keys {G : List (Nat × Obj)} {w0 w : World} {hb : Nat} {lim nx lost : Int} {its : List Itm} (h : Sh G w0 w hb lim nx lost its) : (its.map Itm.key).Nodup ∧ ∀ x ∈ its, Small x := by
  obtain ⟨S, hs, _⟩ := h
  exact shelf_keys hs

/-- Items as a good store has them. -/
def Okx (x : Itm) : Prop := x.key.size ≤ 30 ∧ x.data.size ≤ 100 ∧ (0 ≤ x.flags ∧ x.flags ≤ 1000000000) ∧ (0 ≤ x.token ∧ x.token ≤ 1000000000)
theorem value_size {x : Itm} (h : Okx x) (token : Bool) : (valueR x token).size ≤ 250 := by
  obtain ⟨h1, h2, h3, h4⟩ := h
  have a1 := txt_le x.flags.toNat (by omega)
  have a2 := txt_le x.data.size (by omega)
  have a3 := txt_le x.token.toNat (by omega)
  have b1 : valueS.size = 6 := rfl
  have b2 : blankS.size = 1 := rfl
  have b3 : endS.size = 2 := rfl
  have hl : (lineR x).size ≤ 80 := by
    unfold lineR
    simp only [ByteArray.size_append]
    omega
  unfold valueR
  cases token
  · simp only [Bool.false_eq_true, if_false, ByteArray.size_append]; omega
  · simp only [if_true, ByteArray.size_append]; omega
/-- get and gets: one key more. -/
def tell1 (token : Bool) (st : List Itm × ByteArray) (key : ByteArray) : List Itm × ByteArray := match atN st.1 key with
  | none => st
  | some k => (st.1.eraseIdx k ++ [st.1.getD k zero], st.2 ++ valueR (st.1.getD k zero) token)
def tellK (token : Bool) (its : List Itm) (ks : List ByteArray) : List Itm × ByteArray := ks.foldl (tell1 token) (its, ByteArray.empty)
theorem tellK_step (token : Bool) (its : List Itm) (ks : List ByteArray) (k : Nat) (h : k < ks.length) : tellK token its (ks.take (k + 1)) = tell1 token (tellK token its (ks.take k)) (ks.getD k ByteArray.empty) := by
  have e : ks.getD k ByteArray.empty = ks[k] := by simp [h]
  rw [e, List.take_succ_eq_append_getElem h]
  unfold tellK
  rw [List.foldl_append]
  rfl
/-- What holds of the items and of the text all along. -/
def TellOk (st : List Itm × ByteArray) (k : Nat) : Prop := st.1.length ≤ 60 ∧ (∀ x ∈ st.1, Okx x) ∧ st.2.size ≤ k * 250
theorem tell_ok {token : Bool} {st : List Itm × ByteArray} {k : Nat} (h : TellOk st k) (key : ByteArray) : TellOk (tell1 token st key) (k + 1) := by
  obtain ⟨h1, h2, h3⟩ := h
  unfold tell1
  cases e : atN st.1 key with
  | none => exact ⟨h1, h2, Nat.le_trans h3 (Nat.mul_le_mul_right _ (Nat.le_succ _))⟩
  | some j =>
    have hj := atN_lt e
    have hm : st.1.getD j zero ∈ st.1 := by rw [List.getD_eq_getElem?_getD, List.getElem?_eq_getElem hj]; exact List.getElem_mem _
    refine ⟨?_, ?_, ?_⟩
    · show (st.1.eraseIdx j ++ [st.1.getD j zero]).length ≤ 60
      rw [List.length_append, List.length_eraseIdx_of_lt hj]; simp; omega
    · intro x hx
      rcases List.mem_append.1 hx with hx | hx
      · exact h2 x (List.eraseIdx_subset hx)
      · rw [List.mem_singleton.1 hx]; exact h2 _ hm
    · show (st.2 ++ valueR (st.1.getD j zero) token).size ≤ (k + 1) * 250
      rw [ByteArray.size_append]
      have := value_size (h2 _ hm) token
      omega

theorem tell1_parts (token : Bool) (its : List Itm) (t key : ByteArray) : tell1 token (its, t) key = ((tell1 token (its, ByteArray.empty) key).1, t ++ (tell1 token (its, ByteArray.empty) key).2) := by
  unfold tell1
  cases e : atN its key with
  | none => dsimp only; rw [ByteArray.append_empty]
  | some k => dsimp only; rw [ByteArray.empty_append]

set_option maxRecDepth 10000 in
set_option maxHeartbeats 2000000 in
theorem tellOne_shelf (G : List (Nat × Obj)) (w0 w : World) (hb : Nat) (lim nx lost : Int) (its : List Itm) (key : ByteArray) (token : Bool) (hsh : Sh G w0 w hb lim nx lost its) (hl60 : its.length ≤ 60) (hox : ∀ x ∈ its, Okx x) (hv : Count.Vars w0) (hsm : key.size ≤ maxLen) :
    Calls Tryz.prog 76 #[.pointer (some ⟨hb, 0, none⟩), .string key, .bool token] w fun e w' =>
      e = .returned (.string (tell1 token (its, ByteArray.empty) key).2) ∧ Sh G w0 w' hb lim nx lost (tell1 token (its, ByteArray.empty) key).1 := by
  have HV := hide hv
  have HSH := hide hsh
  have HT1 : Hid (tell1 token (its, ByteArray.empty) key = match atN its key with
    | none => (its, ByteArray.empty)
    | some k => (its.eraseIdx k ++ [its.getD k zero], ByteArray.empty ++ valueR (its.getD k zero) token)) := rfl
  generalize tell1 token (its, ByteArray.empty) key = T at HT1 ⊢
  clear hv
  cases e : atN its key with
  | none =>
    rw [e] at HT1
    obtain rfl : T = (its, ByteArray.empty) := unhide HT1
    obtain ⟨S, hs, hS0, hb0⟩ := hsh
    have HT := hide (take_none w hb S lim nx lost its key hs hsm e)
    clear e hS0 hs HT1 hb0
    go_enter Tryz.func76, Tryz.ntmps76
    go_wp2_with fail
    refine (unhide HT).mono ?_
    rintro e w1 ⟨rfl, hb1⟩
    have HB1 := hide hb1
    clear hb1
    go_wp2
    go_ret
    exact ⟨rfl, by first | exact (unhide HSH).below ((unhide HB1).alloc (unhide HB1).size _) | exact (unhide HSH).below (unhide HB1)⟩
  | some j =>
    rw [e] at HT1
    replace HT1 : Hid (T = (its.eraseIdx j ++ [its.getD j zero], ByteArray.empty ++ valueR (its.getD j zero) token)) := unhide HT1
    obtain ⟨S, hs, hS0, hb0⟩ := hsh
    have HT := hide (take_some w hb S lim nx lost its key j hs (by omega) hsm e)
    have hat := at_split e
    have hmem : its.getD j zero ∈ its := by rw [List.getD_eq_getElem?_getD, List.getElem?_eq_getElem hat.1]; exact List.getElem_mem _
    have HOX := hide (hox _ hmem)
    have HSM := hide ((shelf_keys hs).2 _ hmem)
    have HW2 : Hid (∀ y ∈ its.eraseIdx j, y.key ≠ (its.getD j zero).key) := by
      have h1 := without_keys (key := key) (shelf_keys hs).1
      unfold without at h1
      rw [e] at h1
      rw [hat.2]
      exact h1
    have hel : (its.eraseIdx j).length ≤ 100 := Nat.le_trans (List.length_eraseIdx_le _ _) (by omega)
    have HS0 := hide hS0
    have HB0 := hide hb0
    clear e hat hmem hs hS0 hb0 hox
    generalize its.getD j zero = x at HT1 HT HOX HSM HW2
    generalize its.eraseIdx j = r at HT1 HT HW2 hel
    obtain rfl : T = (r ++ [x], ByteArray.empty ++ valueR x token) := unhide HT1
    dsimp only
    rw [ByteArray.empty_append]
    clear HT1
    obtain ⟨vt, hvt⟩ : ∃ vt, valueR x token = vt := ⟨_, rfl⟩
    rw [hvt]
    have HVE := hide hvt
    clear hvt
    go_enter Tryz.func76, Tryz.ntmps76
    go_wp2_with fail
    refine (unhide HT).mono ?_
    rintro e w1 ⟨rfl, S1, hs1, hS1, hk1⟩
    have hnn : w1.heap.size ∉ S1 := fun hm => by have := hs1.lt _ hm; omega
    have HS1 := hide hs1
    have HSS1 := hide hS1
    have HK1 := hide hk1
    clear hs1 hS1 hk1
    unfold itemV
    go_wp2_with fail
    refine (putLast_shelf _ hb S1 lim nx lost r x ((unhide HS1).keep ((Keeps.refl [] w1).alloc _) (by simp)) hel (unhide HSM) (unhide HW2)).mono ?_
    rintro e w2 ⟨rfl, hst2⟩
    obtain ⟨y0, y1, y2, y3, y4⟩ := lcell4' (hst2.choose_spec.2.2.block w1.heap.size (by simp) hnn) (heap_alloc_new w1 (.cells #[.string x.key, .int .i64 x.flags, .string x.data, .int .i64 x.upto, .int .i64 x.token] 37))
    have HSH2 := hide (sh_step (unhide HS0) (unhide HB0) (step_go ((unhide HK1).alloc _) (unhide HSS1) hst2))
    have hz2 : w1.heap.size < w2.heap.size := by have := hst2.choose_spec.2.2.size; simp at this; omega
    have HVT := hide (valueText_any x token w2 (unhide HSM) (unhide HOX).2.2.1 (unhide HOX).2.2.2 ((unhide HV).below (unhide HSH2).bel))
    clear hst2
    rw [unhide HVE] at HVT
    go_wp2_with fail
    refine (unhide HVT).mono ?_
    rintro e w3 ⟨rfl, hb3⟩
    have HB3 := hide hb3
    clear hb3 y0 y1 y2 y3 y4
    go_wp2
    go_ret
    exact ⟨rfl, (unhide HSH2).below (unhide HB3)⟩

set_option maxRecDepth 10000 in
set_option maxHeartbeats 2000000 in
theorem tell_shelf (G : List (Nat × Obj)) (w0 w : World) (hb : Nat) (lim nx lost : Int) (its : List Itm) (kb ko kc : Nat) (ks : List ByteArray) (token : Bool) (hs : Sh G w0 w hb lim nx lost its) (hok : TellOk (its, ByteArray.empty) 0) (hv : Count.Vars w0)
    (hkb : kb < w0.heap.size) (hkc : ∀ i, i < ks.length → w0.cell? ⟨kb, ko + i, none⟩ = some (.string (ks.getD i ByteArray.empty))) (hkl : ks.length ≤ 1000) (hks : ∀ s ∈ ks, s.size ≤ 1000) :
    Calls Tryz.prog 61 #[.pointer (some ⟨hb, 0, none⟩), .slice (some ⟨kb, ko, none⟩) ks.length kc, .bool token] w fun e w' =>
      e = .returned (.string ((tellK token its ks).2 ++ ⟨#[69, 78, 68, 13, 10]⟩)) ∧ Sh G w0 w' hb lim nx lost (tellK token its ks).1 := by
  have HS := hide hs
  have HOK := hide hok
  have HV := hide hv
  have HKC := hide hkc
  have HKS := hide hks
  clear hs hok hv hkc hks
  go_enter Tryz.func61, Tryz.ntmps61
  go_wp2
  go_loopw [7, 12] (fun tv iv wr => ∃ (k : Nat) (t : ByteArray), k ≤ ks.length ∧ tv = .string t ∧ iv = .int .i64 (k : Int) ∧ t.size ≤ k * 250 ∧ Hid (t = (tellK token its (ks.take k)).2) ∧ Hid (TellOk (tellK token its (ks.take k)) k) ∧ Hid (Sh G w0 wr hb lim nx lost (tellK token its (ks.take k)).1)) (fun _ iv _ => ks.length - (intOf iv).toNat)
  case atStart => exact ⟨0, ⟨#[]⟩, Nat.zero_le _, rfl, rfl, by decide, hide rfl, hide (by simpa [tellK] using unhide HOK), HS⟩
  case round =>
    obtain ⟨k, t, hk, rfl, rfl, hts, hte, hto, hsh⟩ := hrel
    by_cases hlt : k < ks.length
    · have hck := ((unhide hsh).bel.cell (p := ⟨kb, ko + k, none⟩) hkb).trans (unhide HKC k hlt)
      have hst := hide (tellK_step token its ks k hlt)
      have hss : Hid ((ks.getD k ByteArray.empty).size ≤ 1000) := unhide HKS _ (by rw [List.getD_eq_getElem?_getD, List.getElem?_eq_getElem hlt]; exact List.getElem_mem _)
      have hto2 := hide (tell_ok (token := token) (unhide hto) (ks.getD k ByteArray.empty))
      rw [← unhide hst] at hto2
      generalize ks.getD k ByteArray.empty = s at hck hst hss
      have hsm : s.size ≤ maxLen := by have := unhide hss; unfold maxLen; omega
      generalize hST : tellK token its (ks.take k) = st at hst hte hto hsh
      have HT := hide (tellOne_shelf G w0 wr hb lim nx lost st.1 s token (unhide hsh) (unhide hto).1 (unhide hto).2.1 (unhide HV) hsm)
      have HE : Hid (tellK token its (ks.take (k + 1)) = ((tell1 token (st.1, ByteArray.empty) s).1, t ++ (tell1 token (st.1, ByteArray.empty) s).2)) := by
        show tellK token its (ks.take (k + 1)) = _
        rw [unhide hst, unhide hte]
        exact tell1_parts token st.1 st.2 s
      have hsz : (t ++ (tell1 token (st.1, ByteArray.empty) s).2).size ≤ (k + 1) * 250 := by
        have := (unhide hto2).2.2
        rw [unhide HE] at this
        exact this
      generalize tell1 token (st.1, ByteArray.empty) s = T1 at HT HE hsz
      obtain ⟨T1i, T1t⟩ := T1
      dsimp only at HT HE hsz
      have hsz2 : t.size + T1t.size ≤ (k + 1) * 250 := by rw [ByteArray.size_append] at hsz; exact hsz
      have m1 : ¬ 9223372036854775807 < t.size + T1t.size := by omega
      clear hST hst
      go_wp2_with fail
      refine (unhide HT).mono ?_
      rintro e w1 ⟨rfl, hs1⟩
      have HS1 := hide hs1
      clear hs1
      go_wp2
      go_roundw
      case rel => exact ⟨k + 1, t ++ T1t, by omega, rfl, by go_num, hsz, hide (by rw [unhide HE]), hto2, hide (by rw [unhide HE]; exact unhide HS1)⟩
      case measure => simp [intOf]; omega
    · obtain rfl : k = ks.length := by omega
      rw [List.take_length] at hte hsh
      have HT2 : Hid (t ++ (⟨#[69, 78, 68, 13, 10]⟩ : ByteArray) = (tellK token its ks).2 ++ ⟨#[69, 78, 68, 13, 10]⟩) := by show t ++ _ = _; rw [← unhide hte]
      have m1 : ¬ 9223372036854775807 < t.size + 5 := by omega
      go_wp2
      go_ret
      exact ⟨ret_str (unhide HT2), unhide hsh⟩
end Shelf
end Go.Proofs.YtkdcofmpbmiloaaGreatDoor
/-
  The program's itemOf, whole; and set: what a writing command leaves.
-/
namespace Go.Proofs.YtkdcofmpbmiloaaGreatDoor
namespace Shelf
open Go.RowKit Base Items Keep Own Chain Store GoodKey NumText
set_option linter.unusedVariables false

set_option maxRecDepth 10000 in
set_option maxHeartbeats 1000000 in
theorem untilOf_same (now expire : Int) (w : World) (h1 : 0 ≤ now ∧ now ≤ 1000000000) (h2 : 0 ≤ expire ∧ expire ≤ 1000000000) :
    Calls Tryz.prog 65 #[.int .i64 now, .int .i64 expire] w fun e w' => e = .returned (.int .i64 (untilR now expire)) ∧ w = w' := by
  by_cases g : expire = 0
  · subst g
    have e : untilR now 0 = 0 := rfl
    rw [e]
    go_enter Tryz.func65, Tryz.ntmps65
    go_wp2
    go_ret
    exact ⟨rfl, rfl⟩
  · have e : untilR now expire = now + expire := if_neg g
    rw [e]
    have hw : IntKind.i64.wrap (now + expire) = now + expire := by rw [IntKind.wrap_i64]; omega
    have hd : decide (expire = 0) = false := decide_eq_false g
    go_enter Tryz.func65, Tryz.ntmps65
    go_wp2
    go_ret
    exact ⟨rfl, rfl⟩

set_option maxRecDepth 10000 in
set_option maxHeartbeats 4000000 in
theorem itemOf_new (now : Int) (s : ByteArray) (kb ko cap nk : Nat) (key : ByteArray) (f x n : Int) (dt : ByteArray) (q : Bool) (it : Itm) (w : World) (hk : 0 < nk) (hkb : kb < w.heap.size) (hkc : w.cell? ⟨kb, ko, none⟩ = some (.string key))
    (h1 : 0 ≤ now ∧ now ≤ 1000000000) (h2 : 0 ≤ x ∧ x ≤ 1000000000) (g1 : (s.toList == [97, 112, 112, 101, 110, 100]) = false) (g2 : (s.toList == [112, 114, 101, 112, 101, 110, 100]) = false) :
    Calls Tryz.prog 78 #[.int .i64 now, .agg #[.string s, .slice (some ⟨kb, ko, none⟩) nk cap, .int .i64 f, .int .i64 x, .int .i64 n, .string dt, .bool q], .agg #[.string it.key, .int .i64 it.flags, .string it.data, .int .i64 it.upto, .int .i64 it.token]] w fun e w' => e = .returned (.agg #[.string key, .int .i64 f, .string dt, .int .i64 (untilR now x), .int .i64 0]) ∧ Below w.heap.size w w' := by
  have HU := hide (fun w => untilOf_same now x w h1 h2)
  generalize untilR now x = u at HU ⊢
  have hk' : (0 : Int) < (nk : Int) := by omega
  clear h1 h2
  go_enter Tryz.func78, Tryz.ntmps78
  go_wp2
  have s0 : ∀ RB : Obj, (((w.alloc (.cells #[.string s, .slice (some ⟨kb, ko, none⟩) nk cap, .int .i64 f, .int .i64 x, .int .i64 n, .string dt, .bool q] 28)).alloc (.cells #[.string it.key, .int .i64 it.flags, .string it.data, .int .i64 it.upto, .int .i64 it.token] 37)).alloc RB).cell? ⟨kb, ko, none⟩ = some (.string key) := fun RB => by
    rw [(bel3 w _ _ _).cell (p := ⟨kb, ko, none⟩) hkb]; exact hkc
  have n0 : kb ≠ w.heap.size + 1 + 1 := by omega
  go_region_held3 (fun w' => w'.cell? ⟨w.heap.size, 1, none⟩ = some (.slice (some ⟨kb, ko, none⟩) nk cap) ∧ w'.cell? ⟨w.heap.size, 2, none⟩ = some (.int .i64 f) ∧ w'.cell? ⟨w.heap.size, 5, none⟩ = some (.string dt) ∧ w'.cell? ⟨w.heap.size, 3, none⟩ = some (.int .i64 x) ∧ w'.cell? ⟨kb, ko, none⟩ = some (.string key)) (first | go_keep | (refine ⟨?_, ?_, ?_, ?_, ?_⟩ <;> first | assumption | exact s0 _ | (simp [*]; done) | (simp; omega))) (first | (go_at_call 65; refine (unhide HU _).mono ?_; rintro e w1 ⟨rfl, rfl⟩))
  go_wp2
  exact bodyPost_ret (v := .agg #[.string key, .int .i64 f, .string dt, .int .i64 u, .int .i64 0]) (by simp [results, Tryz.results78, go_sem]; done) rfl ⟨rfl, (bel3 w _ _ _).drew⟩

theorem ne_beq {l m : List UInt8} (h : ¬ l = m) : (l == m) = false := beq_eq_false_iff_ne.mpr h
theorem itemOf_any (now : Int) (s : ByteArray) (kb ko cap nk : Nat) (key : ByteArray) (f x n : Int) (dt : ByteArray) (q : Bool) (it : Itm) (w : World) (hk : 0 < nk) (hkb : kb < w.heap.size) (hkc : w.cell? ⟨kb, ko, none⟩ = some (.string key))
    (h1 : 0 ≤ now ∧ now ≤ 1000000000) (h2 : 0 ≤ x ∧ x ≤ 1000000000) (h3 : dt.size ≤ 1048576) (h4 : it.data.size ≤ 1048576) :
    Calls Tryz.prog 78 #[.int .i64 now, .agg #[.string s, .slice (some ⟨kb, ko, none⟩) nk cap, .int .i64 f, .int .i64 x, .int .i64 n, .string dt, .bool q], .agg #[.string it.key, .int .i64 it.flags, .string it.data, .int .i64 it.upto, .int .i64 it.token]] w fun e w' => e = .returned (itemV (itemR now s.toList key f x dt it)) ∧ Below w.heap.size w w' := by
  by_cases g1 : s.toList = [97, 112, 112, 101, 110, 100]
  · have e : itemR now s.toList key f x dt it = { it with data := it.data ++ dt } := by unfold itemR; rw [if_pos g1]
    rw [e]
    exact itemOf_grown now s _ cap nk f x n dt q it w h3 h4 g1
  by_cases g2 : s.toList = [112, 114, 101, 112, 101, 110, 100]
  · have e : itemR now s.toList key f x dt it = { it with data := dt ++ it.data } := by unfold itemR; rw [if_neg g1, if_pos g2]
    rw [e]
    exact itemOf_led now s _ cap nk f x n dt q it w h3 h4 g2
  · have e : itemR now s.toList key f x dt it = { key := key, flags := f, data := dt, upto := untilR now x, token := 0 } := by unfold itemR; rw [if_neg g1, if_neg g2]
    rw [e]
    exact itemOf_new now s kb ko cap nk key f x n dt q it w hk hkb hkc h1 h2 (ne_beq g1) (ne_beq g2)

theorem sh_find {G : List (Nat × Obj)} {w0 w : World} {hb : Nat} {lim nx lost : Int} {its : List Itm} (hs : Sh G w0 w hb lim nx lost its) (key : ByteArray) (hkey : key.size ≤ maxLen) :
    Calls Tryz.prog 28 #[.pointer (some ⟨hb, 0, none⟩), .string key] w fun e w' => e = .returned (.tuple #[itemV (oldO its key), .bool (atN its key).isSome]) ∧ Below w.heap.size w w' := by
  obtain ⟨S, hsh, _, _⟩ := hs
  unfold oldO
  cases e : atN its key with
  | none => exact find_none w hb S lim nx lost its key hsh hkey e
  | some k => exact find_hit w hb S lim nx lost its key k hsh hkey e
theorem sh_keep {G : List (Nat × Obj)} {w0 w : World} {hb : Nat} {lim nx lost : Int} {its : List Itm} {p : Addr} (hs : Sh G w0 w hb lim nx lost its) (hF : FullIs w0 p) (x : Itm) (ans : ByteArray) (hl : its.length ≤ 60) (hx : Small x) (hlim : 0 ≤ lim ∧ lim ≤ 10000) (hnx : 1 ≤ nx ∧ nx ≤ 1000000000) (hlo : 0 ≤ lost ∧ lost ≤ 500) :
    Calls Tryz.prog 80 #[.pointer (some ⟨hb, 0, none⟩), itemV x, .string ans] w fun e w' => AnsEnd p (putO lim nx its x ans).ans e ∧ Sh G w0 w' hb lim (putO lim nx its x ans).nx (lost + (putO lim nx its x ans).lost) (putO lim nx its x ans).its := by
  obtain ⟨S, hsh, hS0, hb0⟩ := hs
  refine (keep_shelf w hb S lim nx lost its x ans p hsh (hF.below hb0.1) hl hx hlim hnx hlo).mono ?_
  intro e w' h
  unfold KeepEnd at h
  unfold putO
  cases ep : putR lim nx its x with
  | none => rw [ep] at h; exact ⟨.inr ⟨rfl, h.1⟩, by simpa using sh_step hS0 hb0 h.2⟩
  | some p => rw [ep] at h; exact ⟨.inl h.1, sh_step hS0 hb0 h.2⟩

set_option maxRecDepth 10000 in
set_option maxHeartbeats 400000 in
theorem fault4 (w : World) : Calls Tryz.prog 79 #[.int .i64 4] w fun e w' => e = .returned (.string largeT) ∧ w' = w := by
  go_enter Tryz.func79, Tryz.ntmps79
  go_wp2
  go_ret
  exact ⟨rfl, rfl⟩
set_option maxRecDepth 10000 in
set_option maxHeartbeats 400000 in
theorem fault3 (w : World) : Calls Tryz.prog 79 #[.int .i64 3] w fun e w' => e = .returned (.string badT) ∧ w' = w := by
  go_enter Tryz.func79, Tryz.ntmps79
  go_wp2
  go_ret
  exact ⟨rfl, rfl⟩

/-- The box of a command. -/
def cmdObj (nm : ByteArray) (kb ko nk kc : Nat) (f x n : Int) (dt : ByteArray) (q : Bool) : Obj := .cells #[.string nm, .slice (some ⟨kb, ko, none⟩) nk kc, .int .i64 f, .int .i64 x, .int .i64 n, .string dt, .bool q] 28
theorem old_small {G : List (Nat × Obj)} {w0 w : World} {hb : Nat} {lim nx lost : Int} {its : List Itm} (hs : Sh G w0 w hb lim nx lost its) (key : ByteArray) : Small (oldO its key) := by
  unfold oldO
  cases e : atN its key with
  | none => show Small zero; exact ⟨by decide, by decide⟩
  | some k => exact small_getD hs.keys.2 k (at_split e).1

set_option maxRecDepth 10000 in
set_option maxHeartbeats 4000000 in
theorem set_shelf (G : List (Nat × Obj)) (w0 w : World) (hb : Nat) (lim nx lost : Int) (its : List Itm) (now : Int) (nm : ByteArray) (kb ko kc nk : Nat) (key : ByteArray) (f x n : Int) (dt : ByteArray) (q : Bool) (p : Addr) (hs : Sh G w0 w hb lim nx lost its) (hF : FullIs w0 p)
    (hkb : kb < w0.heap.size) (hkc : w0.cell? ⟨kb, ko, none⟩ = some (.string key)) (hk0 : 0 < nk) (hkey : key.size ≤ 30) (hdt : dt.size ≤ 100) (hl : its.length ≤ 60) (hlim : 0 ≤ lim ∧ lim ≤ 10000) (hnx : 1 ≤ nx ∧ nx ≤ 1000000000) (hlo : 0 ≤ lost ∧ lost ≤ 500)
    (hnow : 0 ≤ now ∧ now ≤ 1000000000) (hx : 0 ≤ x ∧ x ≤ 1000000000) :
    Calls Tryz.prog 62 #[.pointer (some ⟨hb, 0, none⟩), .int .i64 now, .agg #[.string nm, .slice (some ⟨kb, ko, none⟩) nk kc, .int .i64 f, .int .i64 x, .int .i64 n, .string dt, .bool q]] w fun e w' =>
      AnsEnd p (setO lim nx its now nm.toList key f x n dt).ans e ∧ Sh G w0 w' hb lim (setO lim nx its now nm.toList key f x n dt).nx (lost + (setO lim nx its now nm.toList key f x n dt).lost) (setO lim nx its now nm.toList key f x n dt).its := by
  have HS := hide hs
  have hsm := old_small hs key
  have hck := (hs.bel.cell (p := ⟨kb, ko, none⟩) hkb).trans hkc
  have hkbw : kb < w.heap.size := Nat.lt_of_lt_of_le hkb hs.bel.size
  have hkm : key.size ≤ maxLen := by unfold maxLen; omega
  have HFD := hide (fun w1 (h : Sh G w0 w1 hb lim nx lost its) => sh_find h key hkm)
  have HRF := hide (fun w1 => refusalOf_any nm (some ⟨kb, ko, none⟩) kc nk f x n dt q (oldO its key) (atN its key).isSome w1)
  have HIT := hide (fun w1 h1 h2 => itemOf_any now nm kb ko kc nk key f x n dt q (oldO its key) w1 hk0 h1 h2 hnow hx (by omega) hsm.2)
  have hso : Hid (setO lim nx its now nm.toList key f x n dt = if refusalR nm.toList (atN its key).isSome (oldO its key).token n = ⟨#[]⟩ then
    (if (itemR now nm.toList key f x dt (oldO its key)).data.size ≤ 100 then putO lim nx its (itemR now nm.toList key f x dt (oldO its key)) storedT else ⟨its, nx, 0, largeT⟩)
    else ⟨its, nx, 0, refusalR nm.toList (atN its key).isSome (oldO its key).token n⟩) := rfl
  have hism : Small (itemR now nm.toList key f x dt (oldO its key)) → True := fun _ => trivial
  have HISM : Hid ((itemR now nm.toList key f x dt (oldO its key)).data.size ≤ 100 → Small (itemR now nm.toList key f x dt (oldO its key))) := by
    intro hd
    refine ⟨?_, by omega⟩
    unfold itemR
    split
    · exact hsm.1
    · split
      · exact hsm.1
      · show key.size ≤ 1048576; omega
  generalize setO lim nx its now nm.toList key f x n dt = O at hso ⊢
  generalize refusalR nm.toList (atN its key).isSome (oldO its key).token n = rf at HRF hso
  generalize itemR now nm.toList key f x dt (oldO its key) = im at HIT hso HISM
  generalize oldO its key = od at HFD HRF HIT
  generalize (atN its key).isSome = th at HFD HRF
  clear hs hsm hism hkc
  by_cases hrf : rf = ⟨#[]⟩
  · subst hrf
    rw [if_pos rfl] at hso
    by_cases hd : im.data.size ≤ 100
    · have hE : O = putO lim nx its im storedT := by rw [unhide hso, if_pos hd]
      subst hE
      have HKP := hide (fun w1 (h : Sh G w0 w1 hb lim nx lost its) => sh_keep h hF im storedT hl (unhide HISM hd) hlim hnx hlo)
      have hd2 : ¬ 100 < (im.data.size : Int) := by omega
      clear hso HISM hd
      go_enter Tryz.func62, Tryz.ntmps62
      go_wp2_with fail
      refine (unhide HFD _ ((unhide HS).below (bel1 w _))).mono ?_
      rintro e w1 ⟨rfl, hb1⟩
      obtain ⟨hc1, hf1⟩ := bcell hb1 (Nat.le_refl _)
      have hz1 : w.heap.size < w1.heap.size := by have := hb1.size; simp at this; omega
      have HB1 := hide ((bel1 w _).trans (hb1.mono (by simp)))
      unfold itemV
      clear hb1
      go_wp2_with fail
      refine (unhide HRF _).mono ?_
      rintro e w2 ⟨rfl, hb2⟩
      obtain ⟨hc2, hf2⟩ := bcell hb2 (Nat.le_refl _)
      have hz2 : w1.heap.size < w2.heap.size := by have := hb2.size; simp at this; omega
      have HB2 := hide (((unhide HB1).alloc (unhide HB1).size _).trans (hb2.mono (by have := (unhide HB1).size; simp; omega)))
      clear hb2
      go_wp2_with fail
      refine (unhide HIT _ (Nat.lt_of_lt_of_le hkbw (unhide HB2).size) (((unhide HB2).cell (p := ⟨kb, ko, none⟩) hkbw).trans hck)).mono ?_
      rintro e w3 ⟨rfl, hb3⟩
      have HB3 := hide ((unhide HB2).trans (hb3.mono (unhide HB2).size))
      clear hb3
      unfold itemV
      go_wp2_with fail
      refine (unhide HKP _ ((unhide HS).below ((unhide HB3).alloc (unhide HB3).size _))).mono ?_
      rintro e w4 ⟨he, hs4⟩
      have HS4 := hide hs4
      clear hs4
      rcases he with rfl | ⟨hfull, rfl⟩
      · go_wp2
        go_ret
        exact ⟨.inl rfl, unhide HS4⟩
      · have HFL := hide hfull
        clear hfull
        go_wp2
        exact ⟨rfl, .inr ⟨unhide HFL, rfl⟩, unhide HS4⟩
    · have hE : O = ⟨its, nx, 0, largeT⟩ := by rw [unhide hso, if_neg hd]
      subst hE
      have hd2 : 100 < (im.data.size : Int) := by omega
      clear hso HISM hd
      go_enter Tryz.func62, Tryz.ntmps62
      go_wp2_with fail
      refine (unhide HFD _ ((unhide HS).below (bel1 w _))).mono ?_
      rintro e w1 ⟨rfl, hb1⟩
      obtain ⟨hc1, hf1⟩ := bcell hb1 (Nat.le_refl _)
      have hz1 : w.heap.size < w1.heap.size := by have := hb1.size; simp at this; omega
      have HB1 := hide ((bel1 w _).trans (hb1.mono (by simp)))
      unfold itemV
      clear hb1
      go_wp2_with fail
      refine (unhide HRF _).mono ?_
      rintro e w2 ⟨rfl, hb2⟩
      obtain ⟨hc2, hf2⟩ := bcell hb2 (Nat.le_refl _)
      have hz2 : w1.heap.size < w2.heap.size := by have := hb2.size; simp at this; omega
      have HB2 := hide (((unhide HB1).alloc (unhide HB1).size _).trans (hb2.mono (by have := (unhide HB1).size; simp; omega)))
      clear hb2
      go_wp2_with fail
      refine (unhide HIT _ (Nat.lt_of_lt_of_le hkbw (unhide HB2).size) (((unhide HB2).cell (p := ⟨kb, ko, none⟩) hkbw).trans hck)).mono ?_
      rintro e w3 ⟨rfl, hb3⟩
      have HB3 := hide ((unhide HB2).trans (hb3.mono (unhide HB2).size))
      clear hb3
      unfold itemV
      go_wp2_with fail
      refine (fault4 _).mono ?_
      rintro e w4 ⟨rfl, hw4⟩
      subst hw4
      go_wp2
      go_ret
      exact ⟨.inl rfl, by simpa using (unhide HS).below ((unhide HB3).alloc (unhide HB3).size _)⟩
  · have hE : O = ⟨its, nx, 0, rf⟩ := by rw [unhide hso, if_neg hrf]
    subst hE
    have hne : (rf.toList == []) = false := by
      rw [beq_eq_false_iff_ne]; intro h; apply hrf; apply Go.WideShapes.bytes_inj; rw [← Lib.toList_data, h]
    have HNE := hide hrf
    clear hso HIT HISM hrf
    go_enter Tryz.func62, Tryz.ntmps62
    go_wp2_with fail
    refine (unhide HFD _ ((unhide HS).below (bel1 w _))).mono ?_
    rintro e w1 ⟨rfl, hb1⟩
    obtain ⟨hc1, hf1⟩ := bcell hb1 (Nat.le_refl _)
    have hz1 : w.heap.size < w1.heap.size := by have := hb1.size; simp at this; omega
    have HB1 := hide ((bel1 w _).trans (hb1.mono (by simp)))
    unfold itemV
    clear hb1
    go_wp2_with fail
    refine (unhide HRF _).mono ?_
    rintro e w2 ⟨rfl, hb2⟩
    obtain ⟨hc2, hf2⟩ := bcell hb2 (Nat.le_refl _)
    have hz2 : w1.heap.size < w2.heap.size := by have := hb2.size; simp at this; omega
    have HB2 := hide (((unhide HB1).alloc (unhide HB1).size _).trans (hb2.mono (by have := (unhide HB1).size; simp; omega)))
    clear hb2
    go_wp2
    go_ret
    exact ⟨.inl rfl, by simpa using (unhide HS).below (unhide HB2)⟩
end Shelf
end Go.Proofs.YtkdcofmpbmiloaaGreatDoor
/-
  The program's count, and answerTo: what each command leaves of the shelf, and its answer.
-/
namespace Go.Proofs.YtkdcofmpbmiloaaGreatDoor
namespace Shelf
open Go.RowKit Base Items Keep Own Chain Store GoodKey NumText
set_option linter.unusedVariables false

def countX (lim nx : Int) (its : List Itm) (nm : List UInt8) (n : Int) (od : Itm) : Out := match Count.countB od.data.data.toList n (nm == [100, 101, 99, 114]) with
  | none => ⟨its, nx, 0, badT⟩
  | some t => putO lim nx its { od with data := t } (t ++ endS)
def countO (lim nx : Int) (its : List Itm) (nm : List UInt8) (key : ByteArray) (n : Int) : Out := match atN its key with
  | none => ⟨its, nx, 0, notFoundT⟩
  | some k => countX lim nx its nm n (its.getD k zero)
def touchO (nx : Int) (its : List Itm) (now : Int) (key : ByteArray) (x : Int) : Out := match atN its key with
  | none => ⟨its, nx, 0, notFoundT⟩
  | some k => ⟨its.eraseIdx k ++ [{ its.getD k zero with upto := untilR now x }], nx, 0, touchedT⟩
def removeO (nx : Int) (its : List Itm) (key : ByteArray) : Out := ⟨without its key, nx, 0, if (atN its key).isSome then deletedT else notFoundT⟩
def plainO (nx : Int) (its : List Itm) (nm : List UInt8) : Out :=
  if nm = [102, 108, 117, 115, 104, 95, 97, 108, 108] then ⟨[], nx, 0, okT⟩ else if nm = [118, 101, 114, 115, 105, 111, 110] then ⟨its, nx, 0, versionT⟩ else ⟨its, nx, 0, ByteArray.empty⟩
def tellO (nx : Int) (its : List Itm) (nm : List UInt8) (ks : List ByteArray) : Out :=
  ⟨(tellK (nm == [103, 101, 116, 115]) its ks).1, nx, 0, (tellK (nm == [103, 101, 116, 115]) its ks).2 ++ ⟨#[69, 78, 68, 13, 10]⟩⟩
/-- What a command leaves. -/
def ansO (lim nx : Int) (its : List Itm) (now : Int) (nm : List UInt8) (ks : List ByteArray) (f x n : Int) (dt : ByteArray) : Out :=
  if Kind.kindN nm = 1 then tellO nx its nm ks else
  if Kind.kindN nm = 2 then setO lim nx its now nm (ks.getD 0 ByteArray.empty) f x n dt else
  if Kind.kindN nm = 3 then setO lim nx its now nm (ks.getD 0 ByteArray.empty) f x n dt else
  if Kind.kindN nm = 4 then countO lim nx its nm (ks.getD 0 ByteArray.empty) n else
  if Kind.kindN nm = 5 then touchO nx its now (ks.getD 0 ByteArray.empty) x else
  if Kind.kindN nm = 6 then removeO nx its (ks.getD 0 ByteArray.empty) else
  plainO nx its nm

theorem Sh.keep {G : List (Nat × Obj)} {w0 w w' : World} {hb : Nat} {lim nx lost : Int} {its : List Itm} (h : Sh G w0 w hb lim nx lost its) (hk : Keeps [] w w') : Sh G w0 w' hb lim nx lost its := by
  obtain ⟨S, hs, hS0, hb0⟩ := h
  exact ⟨S, hs.keep hk (by simp), hS0, hb0.1.trans (hk.below (by simp) hb0.1.size), fun g hg => (hk.block _ (lt_of_get (hb0.2 g hg)) (by simp)).trans (hb0.2 g hg)⟩
theorem count_size {l : List UInt8} {m : Int} {d : Bool} {t : ByteArray} (h : Count.countB l m d = some t) : t.size ≤ 18 := by
  unfold Count.countB at h
  repeat' split at h
  all_goals first | (simp at h; done) | (rw [← Option.some.inj h]; omega)

set_option maxRecDepth 10000 in
set_option maxHeartbeats 4000000 in
theorem count_shelf (G : List (Nat × Obj)) (w0 w : World) (hb : Nat) (lim nx lost : Int) (its : List Itm) (nm : ByteArray) (kb ko kc nk : Nat) (key : ByteArray) (f x n : Int) (dt : ByteArray) (q : Bool) (p : Addr) (hs : Sh G w0 w hb lim nx lost its) (hF : FullIs w0 p) (hv : Count.Vars w0)
    (hkb : kb < w0.heap.size) (hkc : w0.cell? ⟨kb, ko, none⟩ = some (.string key)) (hk0 : 0 < nk) (hkey : key.size ≤ 30) (hl : its.length ≤ 60) (hlim : 0 ≤ lim ∧ lim ≤ 10000) (hnx : 1 ≤ nx ∧ nx ≤ 1000000000) (hlo : 0 ≤ lost ∧ lost ≤ 500) (hn : (Lit.int .i64 n).wf = true) :
    Calls Tryz.prog 63 #[.pointer (some ⟨hb, 0, none⟩), .agg #[.string nm, .slice (some ⟨kb, ko, none⟩) nk kc, .int .i64 f, .int .i64 x, .int .i64 n, .string dt, .bool q]] w fun e w' =>
      AnsEnd p (countO lim nx its nm.toList key n).ans e ∧ Sh G w0 w' hb lim (countO lim nx its nm.toList key n).nx (lost + (countO lim nx its nm.toList key n).lost) (countO lim nx its nm.toList key n).its := by
  have HS := hide hs
  have HV := hide hv
  have hck := (hs.bel.cell (p := ⟨kb, ko, none⟩) hkb).trans hkc
  have hkbw : kb < w.heap.size := Nat.lt_of_lt_of_le hkb hs.bel.size
  have hkm : key.size ≤ maxLen := by unfold maxLen; omega
  have HFD := hide (fun w1 (h : Sh G w0 w1 hb lim nx lost its) => sh_find h key hkm)
  have hco : Hid (countO lim nx its nm.toList key n = match atN its key with
    | none => ⟨its, nx, 0, notFoundT⟩
    | some k => countX lim nx its nm.toList n (its.getD k zero)) := rfl
  generalize countO lim nx its nm.toList key n = O at hco ⊢
  have hkeys := hs.keys.2
  clear hs hv hkc
  cases e : atN its key with
  | none =>
    rw [e] at hco HFD
    have hE : O = ⟨its, nx, 0, notFoundT⟩ := unhide hco
    subst hE
    clear hco e hkeys
    generalize oldO its key = od at HFD
    go_enter Tryz.func63, Tryz.ntmps63
    go_wp2_with fail
    refine (unhide HFD _ ((unhide HS).below (bel1 w _))).mono ?_
    rintro e w1 ⟨rfl, hb1⟩
    have HB1 := hide ((bel1 w _).trans (hb1.mono (by simp)))
    clear hb1
    unfold itemV
    go_wp2
    go_ret
    exact ⟨.inl rfl, by simpa using (unhide HS).below ((unhide HB1).alloc (unhide HB1).size _)⟩
  | some k =>
    have hod : oldO its key = its.getD k zero := by unfold oldO; rw [e]
    rw [e] at hco HFD
    rw [hod] at HFD
    have hsm := small_getD hkeys k (at_split e).1
    have hco2 : Hid (O = countX lim nx its nm.toList n (its.getD k zero)) := unhide hco
    clear e hod hkeys hco
    generalize its.getD k zero = od at HFD hco2 hsm
    have hcx : Hid (countX lim nx its nm.toList n od = match Count.countB od.data.data.toList n (nm.toList == [100, 101, 99, 114]) with
      | none => ⟨its, nx, 0, badT⟩
      | some t => putO lim nx its { od with data := t } (t ++ endS)) := rfl
    have HCT := hide (fun w1 hv => Count.count_any od.data n (nm.toList == [100, 101, 99, 114]) w1 hsm.2 hn hv)
    cases ec : Count.countB od.data.data.toList n (nm.toList == [100, 101, 99, 114]) with
    | none =>
      rw [ec] at hcx HCT
      have hE : O = ⟨its, nx, 0, badT⟩ := (unhide hco2).trans (unhide hcx)
      subst hE
      clear hco2 hcx ec
      go_enter Tryz.func63, Tryz.ntmps63
      go_wp2_with fail
      refine (unhide HFD _ ((unhide HS).below (bel1 w _))).mono ?_
      rintro e w1 ⟨rfl, hb1⟩
      obtain ⟨hc1, hf1⟩ := bcell hb1 (Nat.le_refl _)
      have hz1 : w.heap.size < w1.heap.size := by have := hb1.size; simp at this; omega
      have HB1 := hide ((bel1 w _).trans (hb1.mono (by simp)))
      have HS1 := hide ((unhide HS).below (unhide HB1))
      clear hb1
      unfold itemV
      go_wp2_with fail
      refine (unhide HCT _ ((unhide HV).below ((unhide HS1).below (bel1 w1 _)).bel)).mono ?_
      rintro e w2 ⟨rfl, hb2⟩
      obtain ⟨hc2, hf2⟩ := bcell hb2 (Nat.le_refl _)
      have hz2 : w1.heap.size < w2.heap.size := by have := hb2.size; simp at this; omega
      have HB2 := hide (((unhide HB1).alloc (unhide HB1).size _).trans (hb2.mono (by have := (unhide HB1).size; simp; omega)))
      have HS2 := hide (((unhide HS1).below (bel1 w1 _)).below hb2)
      have HKW := hide (Keeps.of_below (S := []) ((bel1 w1 _).trans (hb2.mono (by simp))) (fun _ h1 _ => h1))
      have HX2 := hide ((hb2.block w1.heap.size (by simp)).trans (heap_alloc_new w1 (.cells #[.string od.key, .int .i64 od.flags, .string od.data, .int .i64 od.upto, .int .i64 od.token] 37)))
      clear hb2
      unfold Count.countV
      go_wp2_with fail
      refine (fault3 _).mono ?_
      rintro e w3 ⟨rfl, hw3⟩
      subst hw3
      go_wp2
      go_ret
      exact ⟨.inl rfl, by simpa using unhide HS2⟩
    | some t =>
      rw [ec] at hcx HCT
      have hts := count_size ec
      have hE : O = putO lim nx its { od with data := t } (t ++ endS) := (unhide hco2).trans (unhide hcx)
      subst hE
      have HKP := hide (fun w1 (h : Sh G w0 w1 hb lim nx lost its) => sh_keep h hF { od with data := t } (t ++ endS) hl ⟨hsm.1, by show t.size ≤ 1048576; omega⟩ hlim hnx hlo)
      clear hco2 hcx ec
      have m1 : ¬ 9223372036854775807 < t.size + 2 := by omega
      go_enter Tryz.func63, Tryz.ntmps63
      go_wp2_with fail
      refine (unhide HFD _ ((unhide HS).below (bel1 w _))).mono ?_
      rintro e w1 ⟨rfl, hb1⟩
      obtain ⟨hc1, hf1⟩ := bcell hb1 (Nat.le_refl _)
      have hz1 : w.heap.size < w1.heap.size := by have := hb1.size; simp at this; omega
      have HB1 := hide ((bel1 w _).trans (hb1.mono (by simp)))
      have HS1 := hide ((unhide HS).below (unhide HB1))
      clear hb1
      unfold itemV
      go_wp2_with fail
      refine (unhide HCT _ ((unhide HV).below ((unhide HS1).below (bel1 w1 _)).bel)).mono ?_
      rintro e w2 ⟨rfl, hb2⟩
      obtain ⟨hc2, hf2⟩ := bcell hb2 (Nat.le_refl _)
      have hz2 : w1.heap.size < w2.heap.size := by have := hb2.size; simp at this; omega
      have HB2 := hide (((unhide HB1).alloc (unhide HB1).size _).trans (hb2.mono (by have := (unhide HB1).size; simp; omega)))
      have HS2 := hide (((unhide HS1).below (bel1 w1 _)).below hb2)
      have HKW := hide (Keeps.of_below (S := []) ((bel1 w1 _).trans (hb2.mono (by simp))) (fun _ h1 _ => h1))
      have HX2 := hide ((hb2.block w1.heap.size (by simp)).trans (heap_alloc_new w1 (.cells #[.string od.key, .int .i64 od.flags, .string od.data, .int .i64 od.upto, .int .i64 od.token] 37)))
      clear hb2
      unfold Count.countV
      go_wp2_with fail
      refine (unhide HKP _ ((unhide HS1).keep ((unhide HKW).setCell (p := ⟨w1.heap.size, 2, none⟩) (.inr (Nat.le_refl _)) _))).mono ?_
      rintro e w3 ⟨he, hs3⟩
      have HS3 := hide hs3
      clear hs3
      rcases he with rfl | ⟨hfull, rfl⟩
      · go_wp2
        go_ret
        exact ⟨.inl rfl, unhide HS3⟩
      · have HFL := hide hfull
        clear hfull
        go_wp2
        exact ⟨rfl, .inr ⟨unhide HFL, rfl⟩, unhide HS3⟩

theorem sh_remove {G : List (Nat × Obj)} {w0 w : World} {hb : Nat} {lim nx lost : Int} {its : List Itm} (hs : Sh G w0 w hb lim nx lost its) (key : ByteArray) (hl : its.length ≤ 60) (hkey : key.size ≤ maxLen) :
    Calls Tryz.prog 66 #[.pointer (some ⟨hb, 0, none⟩), .string key] w fun e w' => e = .returned (.string (removeO nx its key).ans) ∧ Sh G w0 w' hb lim nx lost (removeO nx its key).its := by
  obtain ⟨S, hsh, hS0, hb0⟩ := hs
  exact (remove_shelf w hb S lim nx lost its key hsh (by omega) hkey).mono fun e w' ⟨he, h⟩ => ⟨he, sh_step hS0 hb0 h⟩
theorem sh_touch {G : List (Nat × Obj)} {w0 w : World} {hb : Nat} {lim nx lost : Int} {its : List Itm} (hs : Sh G w0 w hb lim nx lost its) (now : Int) (key : ByteArray) (x : Int) (hl : its.length ≤ 60) (hkey : key.size ≤ maxLen) :
    Calls Tryz.prog 64 #[.pointer (some ⟨hb, 0, none⟩), .string key, .int .i64 (untilR now x)] w fun e w' => e = .returned (.string (touchO nx its now key x).ans) ∧ Sh G w0 w' hb lim nx lost (touchO nx its now key x).its := by
  obtain ⟨S, hsh, hS0, hb0⟩ := hs
  refine (touch_shelf w hb S lim nx lost its key (untilR now x) hsh (by omega) hkey).mono ?_
  intro e w' h
  unfold TouchEnd at h
  unfold touchO
  cases ek : atN its key with
  | none => rw [ek] at h; exact ⟨h.1, sh_step hS0 hb0 h.2⟩
  | some k => rw [ek] at h; exact ⟨h.1, sh_step hS0 hb0 h.2⟩
theorem toList_eq {a b : ByteArray} (h : a.toList = b.toList) : a = b := by
  apply Go.WideShapes.bytes_inj
  rw [← Lib.toList_data, ← Lib.toList_data]; exact h
theorem sh_plain {G : List (Nat × Obj)} {w0 w : World} {hb : Nat} {lim nx lost : Int} {its : List Itm} (hs : Sh G w0 w hb lim nx lost its) (nm : ByteArray) :
    Calls Tryz.prog 67 #[.pointer (some ⟨hb, 0, none⟩), .string nm] w fun e w' => e = .returned (.string (plainO nx its nm.toList).ans) ∧ Sh G w0 w' hb lim nx lost (plainO nx its nm.toList).its := by
  obtain ⟨S, hsh, hS0, hb0⟩ := hs
  refine (plain_shelf w hb S lim nx lost its nm hsh).mono ?_
  intro e w' h
  unfold plainO
  by_cases h1 : nm.toList = [102, 108, 117, 115, 104, 95, 97, 108, 108]
  · rw [if_pos h1]
    have := h.1 (toList_eq (by rw [h1, Lib.toList_data]; rfl))
    exact ⟨this.1, sh_step hS0 hb0 this.2⟩
  · rw [if_neg h1]
    have g1 : nm ≠ flushN := fun e => h1 (by rw [e, Lib.toList_data]; rfl)
    by_cases h2 : nm.toList = [118, 101, 114, 115, 105, 111, 110]
    · rw [if_pos h2]
      have := h.2.1 (toList_eq (by rw [h2, Lib.toList_data]; rfl))
      exact ⟨this.1, sh_step hS0 hb0 this.2⟩
    · rw [if_neg h2]
      have := h.2.2 g1 (fun e => h2 (by rw [e, Lib.toList_data]; rfl))
      exact ⟨this.1, sh_step hS0 hb0 this.2⟩
end Shelf
end Go.Proofs.YtkdcofmpbmiloaaGreatDoor
/-
  What DoStore leaves, as a plain function; and what a good store and a good command give. No Go function is spoken of here.
-/
namespace Go.Proofs.YtkdcofmpbmiloaaGreatDoor
namespace Shelf
open Go.RowKit Base Items Store GoodKey NumText
set_option linter.unusedVariables false

structure Done where
  lim : Int
  nx : Int
  its : List Itm
  ans : ByteArray
  lost : Nat
  ok : Bool
def noDone : Done := ⟨0, 0, [], ⟨#[]⟩, 0, false⟩
def yesDone (lim : Int) (q : Bool) (o : Out) : Done := ⟨lim, o.nx, o.its, if q = true then ⟨#[]⟩ else o.ans, o.lost, true⟩
def doR (lim nx : Int) (its : List Itm) (now : Int) (nm : List UInt8) (ks : List ByteArray) (f x n : Int) (dt : ByteArray) (q : Bool) : Done :=
  if gsB lim nx its = true then if inB now 0 1000000000 = true then if GoodCmd.gcB (Kind.kindN nm) ks f x n dt q = true then
    yesDone lim q (ansO lim nx (keepB its now) now nm ks f x n dt) else noDone else noDone else noDone

theorem inB_iff {n lo hi : Int} (h : inB n lo hi = true) : lo ≤ n ∧ n ≤ hi := by
  unfold inB at h
  simpa only [Bool.and_eq_true, decide_eq_true_eq] using h
theorem num_bd {b : Bool} {n : Int} (h : GoodCmd.numB b n = true) : 0 ≤ n ∧ n ≤ 1000000000 := by
  unfold GoodCmd.numB at h
  simp only [Bool.or_eq_true, Bool.and_eq_true, decide_eq_true_eq] at h
  omega
theorem dat_bd {b : Bool} {dt : ByteArray} (h : GoodCmd.datB b dt = true) : dt.size ≤ 100 := by
  unfold GoodCmd.datB at h
  simp only [Bool.or_eq_true, Bool.and_eq_true, decide_eq_true_eq] at h
  omega
/-- What a good command gives. -/
def CmdOk (K : Int) (ks : List ByteArray) (f x n : Int) (dt : ByteArray) : Prop :=
  ks.length ≤ 10 ∧ (∀ s ∈ ks, s.size ≤ 30) ∧ (2 ≤ K ∧ K ≤ 6 → 0 < ks.length) ∧ dt.size ≤ 100 ∧ (0 ≤ f ∧ f ≤ 1000000000) ∧ (0 ≤ x ∧ x ≤ 1000000000) ∧ (0 ≤ n ∧ n ≤ 1000000000)
theorem form_ok {K lo hi : Int} {bf bx bd bn bq : Bool} {ks : List ByteArray} {f x n : Int} {dt : ByteArray} {q : Bool} (h : GoodCmd.formB lo hi bf bx bd bn bq ks f x n dt q = true) (hhi : hi ≤ 10) (hlo : 2 ≤ K ∧ K ≤ 6 → lo = 1) : CmdOk K ks f x n dt := by
  unfold GoodCmd.formB at h
  simp only [Bool.and_eq_true] at h
  obtain ⟨⟨⟨⟨⟨⟨h1, h2⟩, h3⟩, h4⟩, h5⟩, h6⟩, _⟩ := h
  have h1 := inB_iff h1
  refine ⟨by omega, ?_, fun hk => by have := hlo hk; omega, dat_bd h6, num_bd h3, num_bd h4, num_bd h5⟩
  intro s hs
  have := List.all_eq_true.1 h2 s hs
  unfold GoodCmd.gkb gk at this
  simp only [Bool.and_eq_true] at this
  have := inB_iff this.1
  simp at this
  omega
theorem cmd_ok {K : Int} {ks : List ByteArray} {f x n : Int} {dt : ByteArray} {q : Bool} (h : GoodCmd.gcB K ks f x n dt q = true) : CmdOk K ks f x n dt := by
  unfold GoodCmd.gcB at h
  repeat' split at h
  all_goals first | (exact form_ok h (by omega) (by omega)) | (simp at h; done)

theorem okB_okx {nx : Int} {x : Itm} (h : itemB x = true) : Okx x := by
  unfold itemB gk at h
  simp only [Bool.and_eq_true, decide_eq_true_eq] at h
  obtain ⟨⟨⟨⟨⟨h1, _⟩, h2⟩, h3⟩, _⟩, h5⟩ := h
  have h1 := inB_iff h1
  have h2 := inB_iff h2
  have h5 := inB_iff h5
  refine ⟨?_, by omega, h2, by omega⟩
  simp at h1
  omega
/-- What a good store gives, as to its items: each is good, of an elder token; keys and tokens are apart. -/
theorem store_ok {lim nx : Int} {its : List Itm} (h : gsB lim nx its = true) : (0 ≤ lim ∧ lim ≤ 10000) ∧ (1 ≤ nx ∧ nx ≤ 1000000000) ∧ its.length ≤ 60 ∧ (∀ x ∈ its, Okx x) := by
  have hk := good_keys h
  unfold gsB at h
  simp only [Bool.and_eq_true] at h
  obtain ⟨⟨⟨⟨h1, h2⟩, _⟩, h4⟩, _⟩ := h
  refine ⟨inB_iff h1, inB_iff h2, hk.1, ?_⟩
  intro x hx
  obtain ⟨i, hi, rfl⟩ := List.getElem_of_mem hx
  unfold goodTo at h4
  rw [List.all_eq_true] at h4
  have := h4 i (by simpa using hi)
  unfold stepB at this
  simp only [Bool.and_eq_true, List.getD_eq_getElem?_getD, List.getElem?_eq_getElem hi, Option.getD_some] at this
  exact okB_okx (nx := nx) this.1.1
theorem keep_ok {its : List Itm} (now : Int) (h : its.length ≤ 60 ∧ ∀ x ∈ its, Okx x) : TellOk (keepB its now, ByteArray.empty) 0 := by
  refine ⟨Nat.le_trans (List.length_filter_le _ _) h.1, fun x hx => h.2 x (List.mem_filter.1 hx).1, ?_⟩
  show ByteArray.empty.size ≤ 0 * 250
  decide

/-- How many items there are behind a command. -/
theorem putO_len {lim nx : Int} {its : List Itm} {x : Itm} {ans : ByteArray} : (putO lim nx its x ans).its.length ≤ its.length + 1 ∧ (putO lim nx its x ans).lost ≤ its.length + 1 := by
  unfold putO putR
  have h1 := without_len its x.key
  have h2 := trimN_le lim (without its x.key ++ [{ x with token := nx }])
  simp only [List.length_append, List.length_cons, List.length_nil] at h2
  split
  · exact ⟨Nat.le_succ _, Nat.zero_le _⟩
  · rename_i r n h
    split at h
    · simp at h
    · simp only [Option.some.injEq, Prod.mk.injEq] at h
      obtain ⟨rfl, rfl⟩ := h
      dsimp only
      refine ⟨?_, by omega⟩
      simp only [List.length_drop, List.length_append, List.length_cons, List.length_nil]
      omega
theorem tellK_ok {token : Bool} {its : List Itm} (h : TellOk (its, ByteArray.empty) 0) (ks : List ByteArray) : ∀ k, k ≤ ks.length → TellOk (tellK token its (ks.take k)) k
  | 0, _ => by simpa [tellK] using h
  | k + 1, hk => by
    rw [tellK_step token its ks k (by omega)]
    exact tell_ok (tellK_ok h ks k (by omega)) _
theorem ans_len {lim nx : Int} {its : List Itm} {now : Int} {nm : List UInt8} {ks : List ByteArray} {f x n : Int} {dt : ByteArray} (h : TellOk (its, ByteArray.empty) 0) : (ansO lim nx its now nm ks f x n dt).its.length ≤ 61 ∧ (ansO lim nx its now nm ks f x n dt).lost ≤ 61 := by
  have hl : its.length ≤ 60 := h.1
  have hset : ∀ key, (setO lim nx its now nm key f x n dt).its.length ≤ 61 ∧ (setO lim nx its now nm key f x n dt).lost ≤ 61 := by
    intro key
    unfold setO
    split
    · split
      · have := @putO_len lim nx its (itemR now nm key f x dt (oldO its key)) storedT
        omega
      · exact ⟨by show its.length ≤ 61; omega, Nat.zero_le _⟩
    · exact ⟨by show its.length ≤ 61; omega, Nat.zero_le _⟩
  unfold ansO
  split
  · have := (tellK_ok (token := nm == [103, 101, 116, 115]) h ks ks.length (Nat.le_refl _)).1
    rw [List.take_length] at this
    exact ⟨by show (tellK (nm == [103, 101, 116, 115]) its ks).1.length ≤ 61; omega, Nat.zero_le _⟩
  split
  · exact hset _
  split
  · exact hset _
  split
  · unfold countO
    split
    · exact ⟨by show its.length ≤ 61; omega, Nat.zero_le _⟩
    · unfold countX
      split
      · exact ⟨by show its.length ≤ 61; omega, Nat.zero_le _⟩
      · exact ⟨Nat.le_trans putO_len.1 (by omega), Nat.le_trans putO_len.2 (by omega)⟩
  split
  · unfold touchO
    split
    · exact ⟨by show its.length ≤ 61; omega, Nat.zero_le _⟩
    · rename_i k _
      refine ⟨?_, Nat.zero_le _⟩
      show (its.eraseIdx k ++ [{ its.getD k zero with upto := untilR now x }]).length ≤ 61
      have := List.length_eraseIdx_le its k
      simp only [List.length_append, List.length_cons, List.length_nil]
      omega
  split
  · refine ⟨?_, Nat.zero_le _⟩
    show (without its (ks.getD 0 ByteArray.empty)).length ≤ 61
    have := without_len its (ks.getD 0 ByteArray.empty)
    omega
  · unfold plainO
    split
    · exact ⟨by show ([] : List Itm).length ≤ 61; decide, Nat.zero_le _⟩
    · split
      · exact ⟨by show its.length ≤ 61; omega, Nat.zero_le _⟩
      · exact ⟨by show its.length ≤ 61; omega, Nat.zero_le _⟩
/-- The ending of DoStore, and what it leaves in memory. -/
def DoEnd (T : Done) (w : World) (e : Ending) (w' : World) : Prop :=
  ∃ a cap r, e = .returned (.tuple #[.agg #[.int .i64 T.lim, .int .i64 T.nx, .slice a T.its.length cap], .string T.ans, .int .i64 T.lost, .bool T.ok]) ∧ Marks.Ours w' a T.its.length (icell T.its) r ∧ (∀ g, r = some g → w.heap.size ≤ g) ∧ Below w.heap.size w w'
end Shelf
end Go.Proofs.YtkdcofmpbmiloaaGreatDoor
