/-
  Plain data of a slice of lanes, and how it lies in memory; which lane is best, as a plain function. No Go function is spoken of here.
-/
import Derived.Test.YtncdoghnfgnafaaLaneP
import Derived.Test.YtncdoghnfgnafaaWaitO
import Derived.Test.YtncdoghnfgnafaaHash
namespace Go.Proofs.Ytncdoghnfgnafaa
namespace Lanes
open Go.RowKit Base
set_option linter.unusedVariables false

structure Ln where
  ep : Int
  fa : Int
  a : Option Addr
  cap : Nat
  ws : List Waits.D
structure Core where
  ep : Int
  fa : Int
  ws : List Waits.D
def zeroL : Ln := ⟨0, 0, none, 0, []⟩
def zeroC : Core := ⟨0, 0, []⟩
def core (x : Ln) : Core := ⟨x.ep, x.fa, x.ws⟩
def LnAt (w : World) (b o : Nat) (x : Ln) : Prop :=
  w.cell? ⟨b, o, none⟩ = some (.int .i64 x.ep) ∧ w.cell? ⟨b, o + 1, none⟩ = some (.int .i64 x.fa) ∧ w.cell? ⟨b, o + 2, none⟩ = some (.slice x.a x.ws.length x.cap)
theorem LnAt.below {w w' : World} {b o : Nat} {x : Ln} {B : Nat} (h : LnAt w b o x) (hb : Below B w w') (hB : b < B) : LnAt w' b o x := by
  have e := fun o => hb.cell (p := ⟨b, o, none⟩) hB
  exact ⟨(e _).trans h.1, (e _).trans h.2.1, (e _).trans h.2.2⟩
def LsAt (w : World) (a : Option Addr) (L : List Ln) : Prop :=
  L ≠ [] → ∃ b off, a = some ⟨b, off, none⟩ ∧ b < w.heap.size ∧ ∀ i, i < L.length → LnAt w b (off + i * 3) (L.getD i zeroL) ∧ Waits.LAt w (L.getD i zeroL).a (L.getD i zeroL).ws
theorem LsAt.below {w w' : World} {a : Option Addr} {L : List Ln} {B : Nat} (h : LsAt w a L) (hb : Below B w w') (hB : w.heap.size ≤ B) : LsAt w' a L := by
  intro hne
  obtain ⟨b, off, ha, hlt, hc⟩ := h hne
  exact ⟨b, off, ha, Nat.lt_of_lt_of_le hlt hb.size, fun i hi => ⟨(hc i hi).1.below hb (Nat.lt_of_lt_of_le hlt hB), (hc i hi).2.below hb hB⟩⟩
/-- A lane that a call has laid itself: its waits lie at an address. -/
def Str (w : World) (x : Ln) : Prop := ∃ b, x.a = some ⟨b, 0, none⟩ ∧ b < w.heap.size ∧ (∀ j, j < x.ws.length → Waits.At w b (0 + j * 2) (x.ws.getD j Waits.zero)) ∧ x.cap = x.ws.length
theorem Str.below {w w' : World} {x : Ln} {B : Nat} (h : Str w x) (hb : Below B w w') (hB : w.heap.size ≤ B) : Str w' x := by
  obtain ⟨b, ha, hlt, hc, hcap⟩ := h
  exact ⟨b, ha, Nat.lt_of_lt_of_le hlt hb.size, fun j hj => (hc j hj).below hb (Nat.lt_of_lt_of_le hlt hB), hcap⟩
def RAt (w : World) (b : Nat) (L : List Ln) : Prop := b < w.heap.size ∧ ∀ i, i < L.length → LnAt w b (0 + i * 3) (L.getD i zeroL) ∧ Str w (L.getD i zeroL)
theorem RAt.below {w w' : World} {b : Nat} {L : List Ln} {B : Nat} (h : RAt w b L) (hb : Below B w w') (hB : w.heap.size ≤ B) : RAt w' b L :=
  ⟨Nat.lt_of_lt_of_le h.1 hb.size, fun i hi => ⟨(h.2 i hi).1.below hb (Nat.lt_of_lt_of_le h.1 hB), (h.2 i hi).2.below hb hB⟩⟩
theorem RAt.ls {w : World} {b : Nat} {L : List Ln} (h : RAt w b L) : LsAt w (some ⟨b, 0, none⟩) L := by
  intro _
  refine ⟨b, 0, rfl, h.1, fun i hi => ⟨(h.2 i hi).1, ?_⟩⟩
  obtain ⟨b', ha, hlt, hc, _⟩ := (h.2 i hi).2
  intro _
  exact ⟨b', 0, ha, hlt, hc⟩

/-- Cell j of a row of lanes. -/
def lcell (L : List Ln) (j : Nat) : Value :=
  if j % 3 = 0 then .int .i64 (L.getD (j / 3) zeroL).ep else if j % 3 = 1 then .int .i64 (L.getD (j / 3) zeroL).fa else .slice (L.getD (j / 3) zeroL).a (L.getD (j / 3) zeroL).ws.length (L.getD (j / 3) zeroL).cap
theorem getD_snoc (L : List Ln) (x : Ln) (i : Nat) : (L ++ [x]).getD i zeroL = if i = L.length then x else L.getD i zeroL := by
  simp only [List.getD_eq_getElem?_getD]
  rcases Nat.lt_trichotomy i L.length with h | h | h
  · rw [if_neg (by omega), List.getElem?_append_left h]
  · rw [if_pos h, h]; simp
  · rw [if_neg (by omega), List.getElem?_append_right (by omega), List.getElem?_eq_none (by simp; omega), List.getElem?_eq_none (by omega)]
theorem lcell_snoc (L : List Ln) (x : Ln) (k j : Nat) (hk : L.length = k) : (if j = k * 3 + 2 then (.slice x.a x.ws.length x.cap : Value) else if j = k * 3 + 1 then (.int .i64 x.fa : Value) else if j = k * 3 then (.int .i64 x.ep : Value) else lcell L j) = lcell (L ++ [x]) j := by
  subst hk
  unfold lcell
  rw [getD_snoc]
  have hm : j % 3 < 3 := Nat.mod_lt _ (by decide)
  have hd := Nat.div_add_mod j 3
  by_cases h2 : j = L.length * 3 + 2
  · rw [if_pos h2, if_neg (by omega), if_neg (by omega), if_pos (by omega)]
  rw [if_neg h2]
  by_cases h1 : j = L.length * 3 + 1
  · rw [if_pos h1, if_neg (by omega), if_pos (by omega), if_pos (by omega)]
  rw [if_neg h1]
  by_cases h0 : j = L.length * 3
  · rw [if_pos h0, if_pos (by omega), if_pos (by omega)]
  rw [if_neg h0, if_neg (show ¬ j / 3 = L.length by omega)]
theorem lcell_at {w : World} {b : Nat} {t : TypeId} {n : Nat} {L : List Ln} (h : w.rowIs b t (n * 3) (lcell L)) (i : Nat) (hi : i < n) : LnAt w b (0 + i * 3) (L.getD i zeroL) := by
  rw [Nat.zero_add]
  refine ⟨?_, ?_, ?_⟩
  · rw [h.cell (by omega), lcell, show (i * 3) % 3 = 0 by omega, show (i * 3) / 3 = i by omega]; simp
  · rw [h.cell (by omega), lcell, show (i * 3 + 1) % 3 = 1 by omega, show (i * 3 + 1) / 3 = i by omega]; simp
  · rw [h.cell (by omega), lcell, show (i * 3 + 2) % 3 = 2 by omega, show (i * 3 + 2) / 3 = i by omega]; simp

/-- How much room is left. -/
def szGo : List Ln → Int → Int
  | [], left => left
  | x :: r, left => if Waits.szL x.ws left < 0 then -1 else szGo r (Waits.szL x.ws left)
def szLs (L : List Ln) (left : Int) : Int := if left - L.length < 0 then -1 else szGo L (left - L.length)
theorem szGo_len : ∀ (L : List Ln) (left : Int), 0 ≤ left → ¬ szGo L left < 0 → ∀ x ∈ L, (x.ws.length : Int) ≤ left
  | [], _, _, _ => by simp
  | x :: r, left, h0, h => by
    have hbd := Waits.szL_bd x.ws left h0
    unfold szGo at h
    split at h
    · omega
    · rename_i hn
      intro y hy
      rcases List.mem_cons.1 hy with rfl | hy
      · exact Waits.szL_len hn
      · have := szGo_len r _ (by omega) h y hy
        omega
theorem szLs_len {L : List Ln} {left : Int} (h : ¬ szLs L left < 0) : (L.length : Int) ≤ left ∧ ∀ x ∈ L, (x.ws.length : Int) ≤ left := by
  unfold szLs at h
  split at h
  · omega
  · refine ⟨by omega, fun x hx => ?_⟩
    have := szGo_len L _ (by omega) h x hx
    omega

/- which lane is best -/
def soundB (cs : List Core) (k : Nat) : Bool := decide ((cs.getD k zeroC).fa < 3)
def pos (n f i : Nat) : Nat := (f + i) % n
def foundO (cs : List Core) (f : Nat) : Option Nat := (List.range cs.length).find? (fun i => soundB cs (pos cs.length f i))
def bestN (cs : List Core) (f : Nat) : Nat := match foundO cs f with | some i => pos cs.length f i | none => f
def goodB (cs : List Core) : Bool := cs.all (fun x => Lanes.glB x.ep x.fa x.ws)
end Lanes
end Go.Proofs.Ytncdoghnfgnafaa
