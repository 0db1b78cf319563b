/-
  The program's list of links: freeLink as one contract, putLast.
-/
import Derived.Test.YtkodgbalhnbhcaaGreatDoorZ2
import Derived.Test.YtkodgbalhnbhcaaGreatDoorZ1
import Derived.Lib.ItoaNum
import Derived.Lib.ItoaLen
namespace Go.Proofs.YtkodgbalhnbhcaaGreatDoor
namespace Chain
open Go.RowKit Base Items Keep
set_option linter.unusedVariables false

theorem freeLink_any (w : World) (hb : Nat) (h : Hd) (gl : Nat) (gf : Option Nat) (ls : List Lnk) (free order : List Nat) (cl : Nat) (vf : Value) (hm : Mem w hb h gl gf ls free cl vf) (hG : Good ls free order) (hlen : ls.length ≤ 1000) :
    Calls Tryz.prog 181 #[.pointer (some ⟨hb, 4, none⟩)] w fun e w' => ∃ n ls' free' gl' cl' vf', e = .returned (.int .i64 (n : Nat)) ∧ Mem w' hb h gl' gf ls' free' cl' vf' ∧ Good ls' (n :: free') order ∧
      itemsOf ls' order = itemsOf ls order ∧ (ls'.length ≤ ls.length ∨ ls'.length = order.length + 2) ∧ (gl' = gl ∨ w.heap.size ≤ gl') ∧ Keeps [hb, gl] w w' ∧ (∀ p ∈ order, (lk ls' p).val = (lk ls p).val) := by
  rcases List.eq_nil_or_concat free with rfl | ⟨fr, p, rfl⟩
  · refine (freeLink_none w hb h gl gf ls cl vf hm hlen).mono ?_
    rintro e w' ⟨rfl, gl', cl', hm', hgl, hk⟩
    refine ⟨ls.length, ls ++ [zl], [], gl', cl', vf, rfl, hm', hG.more, items_more hG, .inr (by have := hG.len; simp at this ⊢; omega), hgl, hk, fun p hp => ?_⟩
    rw [lk_push, if_neg]
    have := (hG.inO _ hp).2; omega
  · rw [List.concat_eq_append] at hm hG
    have hl := hG.len
    simp at hl
    refine (freeLink_some w hb h gl gf ls fr p cl vf hm (by omega)).mono ?_
    rintro e w' ⟨rfl, vf', hm', hk⟩
    exact ⟨p, ls, fr, gl, cl, vf', rfl, hm', hG.perm (List.perm_append_comm (l₁ := fr) (l₂ := [p])), rfl, .inl (by omega), .inl rfl, hk.mono (by simp), fun _ _ => rfl⟩

theorem Mem.step {w w' : World} {hb : Nat} {h : Hd} {gl : Nat} {gf : Option Nat} {ls ls' : List Lnk} {free : List Nat} {cl : Nat} {vf : Value} (hm : Mem w hb h gl gf ls free cl vf) (hk : ∀ k, k ≠ gl → w'.heap[k]? = w.heap[k]?)
    (hl : LinksAt w' 196 gl cl ls') (hn : ls'.length = ls.length) : Mem w' hb h gl gf ls' free cl vf :=
  ⟨by rw [hn]; exact hm.box.of_block (hk hb hm.n1), hl, own_blocks hm.fr (fun g hg => hk g (fun e => hm.n3 (by rw [← hm.own, hg, e]))), hm.own, hm.n1, hm.n2, hm.n3⟩
/-- Only block g has turned. -/
structure One (w w' : World) (g : Nat) : Prop where
  os : w'.os = w.os
  tape : w'.tape = w.tape
  output : w'.output = w.output
  size : w.heap.size ≤ w'.heap.size
  block : ∀ k, k ≠ g → w'.heap[k]? = w.heap[k]?
theorem One.refl (w : World) (g : Nat) : One w w g := ⟨rfl, rfl, rfl, Nat.le_refl _, fun _ _ => rfl⟩
theorem One.set {w w' : World} {g : Nat} (h : One w w' g) (o : Nat) (v : Value) : One w (w'.setCell ⟨g, o, none⟩ v) g :=
  ⟨h.os, h.tape, h.output, by simpa [World.setCell] using h.size, fun k hk => (Below.heap_setCell _ _ _ _ hk).trans (h.block k hk)⟩
theorem One.drew {w w' : World} {g : Nat} (h : One w w' g) : One w w'.drew g := ⟨h.os, h.tape, h.output, h.size, h.block⟩
theorem One.keeps {S : List Nat} {a w w' : World} {g : Nat} (h : One w w' g) (hk : Keeps S a w) (hg : g ∈ S ∨ a.heap.size ≤ g) : Keeps S a w' :=
  hk.trans (S' := [g]) ⟨h.os, h.tape, h.output, h.size, fun k _ hn => h.block k (by simpa using hn)⟩ (by simpa using hg)
theorem LinksAt.drew {w : World} {t : TypeId} {g cap : Nat} {ls : List Lnk} (h : LinksAt w t g cap ls) : LinksAt w.drew t g cap ls := h
theorem keep_row {S : List Nat} {a w w' : World} {g : Nat} (h : Keeps S a w) (ho : w'.os = w.os) (ht : w'.tape = w.tape) (hp : w'.output = w.output) (hs : w.heap.size ≤ w'.heap.size) (hk : ∀ k, k ≠ g → w'.heap[k]? = w.heap[k]?) (hg : g ∈ S ∨ a.heap.size ≤ g) : Keeps S a w' :=
  h.trans (S' := [g]) ⟨ho, ht, hp, hs, fun k _ hn => hk k (by simpa using hn)⟩ (by simpa using hg)

set_option maxRecDepth 10000 in
set_option maxHeartbeats 2000000 in
theorem putLast_any (w : World) (hb : Nat) (h : Hd) (gl : Nat) (gf : Option Nat) (ls : List Lnk) (free order : List Nat) (cl : Nat) (vf : Value) (x : Itm) (hm : Mem w hb h gl gf ls free cl vf) (hG : Good ls free order) (hlen : ls.length ≤ 1000) :
    Calls Tryz.prog 165 #[.pointer (some ⟨hb, 4, none⟩), .agg #[.string x.key, .int .i64 x.flags, .string x.data, .int .i64 x.upto, .int .i64 x.token]] w fun e w' => ∃ n ls' free' gl' cl' vf', e = .returned (.int .i64 (n : Nat)) ∧ Mem w' hb h gl' gf ls' free' cl' vf' ∧ Good ls' free' (order ++ [n]) ∧
      itemsOf ls' (order ++ [n]) = itemsOf ls order ++ [x] ∧ (ls'.length ≤ ls.length ∨ ls'.length = order.length + 2) ∧ (gl' = gl ∨ w.heap.size ≤ gl') ∧ Keeps [hb, gl] w w' ∧ (∀ p ∈ order, (lk ls' p).val = (lk ls p).val) ∧ (lk ls' n).val = x ∧ n ∉ order := by
  have HM := hide hm
  have HG := hide hG
  clear hm hG
  go_enter Tryz.func165, Tryz.ntmps165
  go_wp2_with fail
  refine (freeLink_any _ hb h gl gf ls free order cl vf ((unhide HM).keep ((Keeps.refl [] w).alloc _) (by simp) (by simp) (by simp)) (unhide HG) hlen).mono ?_
  rintro e w1 ⟨n, ls1, free1, gl1, cl1, vf1, rfl, hm1, hG1, hit, hl1, hgl, hk, hv⟩
  simp only [World.size_alloc] at hgl
  have hK1 := hide (((Keeps.refl [hb, gl] w).alloc _).trans hk (by simp))
  have hlt0 := last_lt hG1
  obtain ⟨hn0, hnl, hno⟩ := hG1.inF n (by simp)
  have hne : n ≠ (lk ls1 0).ahead := by
    intro e
    rw [← e] at hlt0
    rcases List.mem_cons.1 hlt0.2 with h0 | h1
    · omega
    · exact hno h1
  obtain ⟨c0, c1, c2, c3, c4, c5, c6⟩ := hm1.box.cells
  have a0 := hm1.links.ahead (p := 0) (by omega)
  have hcx := fun o => hk.cell (b := w.heap.size) (o := o) (by simp) (by simp; have h1 := (unhide HM).box.lt; have h2 := Row.lt (unhide HM).links; omega)
  have HM1 := hide hm1
  have HG1 := hide hG1
  have HV := hide hv
  have HIT := hide hit
  have HGL := hide hgl
  clear hm1 hG1 hv hit hk hgl c0 c1 c2 c3 c5 c6
  generalize hlast : (lk ls1 0).ahead = last at a0 hlt0 hne
  have fz := fun j => Row.frozen (unhide HM1).links j
  have hn' : (n : Int) < ls1.length := by omega
  obtain ⟨i0, i1, i2, i3, i4⟩ := (unhide HM1).links.item hnl
  have i5 := (unhide HM1).links.ahead hnl
  have i6 := (unhide HM1).links.behind hnl
  have hglS : gl1 ∈ [hb, gl] ∨ w.heap.size ≤ gl1 := (unhide HGL).elim (fun e => .inl (by simp [e])) (fun e => .inr (by omega))
  go_wp2
  go_region
  have L2 := ((unhide HM1).links.setAll hnl ⟨x, last, 0⟩).drew
  have O2 := ((((((((One.refl w1 gl1).set (n * 7) (.string x.key)).set (n * 7 + 1) (.int .i64 x.flags)).set (n * 7 + 2) (.string x.data)).set (n * 7 + 3) (.int .i64 x.upto)).set (n * 7 + 4) (.int .i64 x.token)).set (n * 7 + 5) (.int .i64 last)).set (n * 7 + 6) (.int .i64 0)).drew
  simp only [Int.natCast_zero] at L2
  generalize ((((((((w1.setCell ⟨gl1, n * 7, none⟩ (.string x.key)).setCell ⟨gl1, n * 7 + 1, none⟩ (.int .i64 x.flags)).setCell ⟨gl1, n * 7 + 2, none⟩ (.string x.data)).setCell ⟨gl1, n * 7 + 3, none⟩ (.int .i64 x.upto)).setCell ⟨gl1, n * 7 + 4, none⟩ (.int .i64 x.token)).setCell ⟨gl1, n * 7 + 5, none⟩ (.int .i64 last)).setCell ⟨gl1, n * 7 + 6, none⟩ (.int .i64 0)).drew) = w2 at L2 O2 ⊢
  have HM2 : Hid (Mem w2 hb h gl1 gf (ls1.set n ⟨x, last, 0⟩) free1 cl1 vf1) := (unhide HM1).step O2.block L2 (by simp)
  have HK2 : Hid (Keeps [hb, gl] w w2) := O2.keeps (unhide hK1) hglS
  clear L2 O2 i0 i1 i2 i3 i4 i5 i6 c4 a0 hcx fz HM1 hK1
  have hl2 : (ls1.set n ⟨x, last, 0⟩).length = ls1.length := by simp
  generalize hls2 : ls1.set n ⟨x, last, 0⟩ = ls2 at HM2 hl2
  obtain ⟨c0, c1, c2, c3, c4, c5, c6⟩ := (unhide HM2).box.cells
  have fz := fun j => Row.frozen (unhide HM2).links j
  have i6 := (unhide HM2).links.behind (p := last) (by omega)
  have hla : (last : Int) < ls1.length := by omega
  have i5 : w2.cell? ⟨gl1, 5, none⟩ = some (.int .i64 (lk ls2 0).ahead) := by
    have := (unhide HM2).links.ahead (p := 0) (by omega)
    rwa [Nat.zero_mul, Nat.zero_add] at this
  rw [hl2] at c4
  clear c0 c1 c2 c3 c5 c6
  go_wp2
  go_ret
  have hm2 := unhide HM2
  have hG := unhide HG1
  have hll : last < ls2.length := by omega
  have L3 := hm2.links.setBehind hll n
  have L4 := L3.setAhead (p := 0) (by simp; omega) n
  rw [Nat.zero_mul, Nat.zero_add] at L4
  have eput : (ls2.set last { lk ls2 last with behind := n }).set 0 { lk (ls2.set last { lk ls2 last with behind := n }) 0 with ahead := n } = putL ls1 n x := by
    unfold putL
    simp only [hlast, hls2]
  rw [eput] at L4
  have O4 := ((One.refl w2 gl1).set (last * 7 + 6) (.int .i64 (n : Int))).set 5 (.int .i64 (n : Int))
  refine ⟨n, putL ls1 n x, free1, gl1, cl1, vf1, rfl, hm2.step O4.block L4 (by rw [putL_len, hl2]), hG.put x, ?_, by rw [putL_len]; exact hl1, ?_, O4.keeps (unhide HK2) hglS, ?_, ?_, hno⟩
  · rw [items_put hG, unhide HIT]
  · exact (unhide HGL).imp id (fun e => by omega)
  · intro p hp
    rw [(putL_at hn0 hnl (by rw [hlast]; omega) (by rw [hlast]; exact hne) p).1, if_neg (show ¬ p = n from fun e => hno (e ▸ hp))]
    exact unhide HV p hp
  · rw [(putL_at hn0 hnl (by rw [hlast]; omega) (by rw [hlast]; exact hne) n).1, if_pos rfl]
end Chain
end Go.Proofs.YtkodgbalhnbhcaaGreatDoor
/-
  The decimal digits of a number, as plain data. No Go function is spoken of here.
-/
namespace Go.Proofs.YtkodgbalhnbhcaaGreatDoor
namespace NumText
open Go.RowKit Base
set_option linter.unusedVariables false

def txt (n : Nat) : ByteArray := ⟨(Lib.decDigits n).toArray⟩

theorem txt_0 : (txt 0).size = 1 := by
  unfold txt
  rw [Lib.decDigits, dif_pos (by omega)]
  rfl
theorem txt_small (n : Int) (h0 : 0 ≤ n) (h : n < 10) : (⟨#[UInt8.ofNat (48 + n).toNat]⟩ : ByteArray) = txt n.toNat := by
  unfold txt
  rw [Lib.decDigits, dif_pos (by omega), show (48 + n).toNat = 48 + n.toNat by omega]

theorem quo10 (n : Int) (h0 : 10 ≤ n) (h : n < 9223372036854775808) : IntKind.i64.wrap (n.tdiv 10) = n / 10 := by
  rw [IntKind.wrap_i64, Int.tdiv_eq_ediv_of_nonneg (by omega)]
  omega
theorem rem10 (n : Int) (h0 : 10 ≤ n) (h : n < 9223372036854775808) : IntKind.u8.wrap (IntKind.i64.wrap (48 + n.tmod 10)) = 48 + n % 10 := by
  rw [Int.tmod_eq_emod_of_nonneg (by omega), IntKind.wrap_i64, IntKind.wrap_u8]
  omega
theorem txt_step (n : Int) (h0 : 10 ≤ n) : txt (n / 10).toNat ++ (⟨#[UInt8.ofNat (48 + n % 10).toNat]⟩ : ByteArray) = txt n.toNat := by
  unfold txt
  have e : Lib.decDigits n.toNat = Lib.decDigits (n.toNat / 10) ++ [UInt8.ofNat (48 + n.toNat % 10)] := by
    rw [Lib.decDigits, dif_neg (by omega)]
  rw [e, show (n / 10).toNat = n.toNat / 10 by omega, show (48 + n % 10).toNat = 48 + n.toNat % 10 by omega]
  apply Go.WideShapes.bytes_inj
  simp

end NumText
end Go.Proofs.YtkodgbalhnbhcaaGreatDoor
/-
  Rows that are written in place, and the marks that the law files write. No Go function is spoken of here.
-/
namespace Go.Proofs.YtkodgbalhnbhcaaGreatDoor
namespace Marks
open Go.RowKit Base NumText

/-- A block whose first n cells are told, none of it frozen; it may have more. -/
def RowAt (w : World) (b : Nat) (t : TypeId) (n : Nat) (f : Nat → Value) : Prop :=
  ∃ c : Array Value, w.heap[b]? = some (.cells c t (0, 0)) ∧ n ≤ c.size ∧ ∀ i, i < n → c[i]? = some (f i)
namespace RowAt
variable {w : World} {b : Nat} {t : TypeId} {n : Nat} {f g : Nat → Value}
theorem cell (h : RowAt w b t n f) {i : Nat} (hi : i < n) : w.cell? ⟨b, i, none⟩ = some (f i) := by
  obtain ⟨c, hb, _, hc⟩ := h
  simp [World.cell?, hb, hc i hi]
theorem frozen (h : RowAt w b t n f) (i : Nat) : w.frozen? ⟨b, i, none⟩ = false := by
  obtain ⟨c, hb, _, _⟩ := h
  simp [World.frozen?, hb]
theorem lt (h : RowAt w b t n f) : b < w.heap.size := by
  obtain ⟨c, hb, _, _⟩ := h
  obtain ⟨hlt, _⟩ := Array.getElem?_eq_some_iff.1 hb
  exact hlt
theorem congr (h : RowAt w b t n f) (e : ∀ i, i < n → f i = g i) : RowAt w b t n g := by
  obtain ⟨c, hb, hn, hc⟩ := h
  exact ⟨c, hb, hn, fun i hi => by rw [hc i hi, e i hi]⟩
theorem of_block {w' : World} (h : RowAt w b t n f) (e : w'.heap[b]? = w.heap[b]?) : RowAt w' b t n f := by
  obtain ⟨c, hb, hn, hc⟩ := h
  exact ⟨c, e.trans hb, hn, hc⟩
theorem set (h : RowAt w b t n f) (i : Nat) (v : Value) : RowAt (w.setCell ⟨b, i, none⟩ v) b t n (fun j => if j = i then v else f j) := by
  obtain ⟨c, hb, hn, hc⟩ := h
  refine ⟨c.setIfInBounds i v, ?_, by simpa using hn, fun j hj => ?_⟩
  · simp [World.setCell, Array.getElem?_modify, hb]
  · rw [Array.getElem?_setIfInBounds]
    by_cases e : j = i
    · subst e
      simp
      omega
    · rw [if_neg (fun h => e h.symm)]
      show c[j]? = some (if j = i then v else f j)
      rw [if_neg e]
      exact hc j hj
theorem of_row (h : w.rowIs b t n f) : RowAt w b t n f := by
  obtain ⟨c, hb, hn, hc⟩ := h
  exact ⟨c, hb, by omega, hc⟩
theorem below {w' : World} {B : Nat} (h : RowAt w b t n f) (hb : Below B w w') (hB : b < B) : RowAt w' b t n f := h.of_block (hb.block b hB)
end RowAt

/-- Only block g, of those that were there, may have turned. -/
theorem gb_refl (w : World) (r : Option Nat) : w.grownBy w r := ⟨rfl, rfl, rfl, Nat.le_refl _, fun _ _ _ => rfl⟩
theorem gb_trans {a b c : World} {r : Option Nat} (h : a.grownBy b r) (k : b.grownBy c r) : a.grownBy c r :=
  ⟨k.os.trans h.os, k.tape.trans h.tape, k.output.trans h.output, Nat.le_trans h.size k.size, fun i hi hr => (k.block i (Nat.lt_of_lt_of_le hi h.size) hr).trans (h.block i hi hr)⟩
theorem gb_below {w w' : World} {r : Option Nat} {B : Nat} (h : Below B w w') (hB : w.heap.size ≤ B) : w.grownBy w' r := ⟨h.os, h.tape, h.output, h.size, fun k hk _ => h.block k (by omega)⟩
theorem gb_set {w w' : World} {g : Nat} (h : w.grownBy w' (some g)) (o : Nat) (v : Value) : w.grownBy (w'.setCell ⟨g, o, none⟩ v) (some g) :=
  gb_trans h ⟨rfl, rfl, rfl, by simp [World.setCell], fun k _ hk => Below.heap_setCell _ _ _ _ (fun e => hk (by simp at e; rw [e]))⟩
theorem gb_drew {w w' : World} {r : Option Nat} (h : w.grownBy w' r) : w.grownBy w'.drew r := ⟨h.os, h.tape, h.output, h.size, h.block⟩
theorem below_gb {B g : Nat} {a w w' : World} (h : Below B a w) (hg : w.grownBy w' (some g)) (hB : B ≤ w.heap.size) (hr : B ≤ g) : Below B a w' :=
  h.grown hg hB (fun k e => by simp at e; omega)
theorem RowAt.gb {w w' : World} {b g : Nat} {t : TypeId} {n : Nat} {f : Nat → Value} (h : RowAt w b t n f) (hg : w.grownBy w' (some g)) (hne : b ≠ g) : RowAt w' b t n f :=
  h.of_block (hg.block b h.lt (fun e => hne (by simpa using e)))

/-- The text of a mark. -/
def mtxt (n : Nat) : ByteArray := ⟨#[109]⟩ ++ txt n
theorem mtxt_size (n : Nat) (h : n < 18446744073709551616) : (mtxt n).size ≤ 21 := by
  have h1 := Lib.nDigits_le20 n h
  have e : (txt n).size = Lib.nDigits n := by
    show (Lib.decDigits n).toArray.size = _
    rw [Lib.decDigits_eq]; simp
  unfold mtxt
  rw [ByteArray.size_append, e]
  show 1 + _ ≤ 21
  omega
end Marks
end Go.Proofs.YtkodgbalhnbhcaaGreatDoor
