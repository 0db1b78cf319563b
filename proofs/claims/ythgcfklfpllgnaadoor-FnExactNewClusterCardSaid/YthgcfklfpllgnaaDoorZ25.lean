/-
  What NewCluster answers, plainly.
-/
import Derived.Test.YthgcfklfpllgnaaDoorZ15
import Derived.Test.YthgcfklfpllgnaaDoorZ24
import Derived.Test.YthgcfklfpllgnaaDoorZ3
import Derived.Test.YthgcfklfpllgnaaDoorZ1
import Derived.Test.YthgcfklfpllgnaaDoorZ13
namespace Go.Proofs.YthgcfklfpllgnaaDoor
namespace NewClusterL
open Go.RowKit Base Clus Plc GoodKey
set_option linter.unusedVariables false

def nwC (nd : List Nodes.D) (lim : Int) : CC := ⟨0, 1, lim, 0, nd, [], (insAll (nd.map (·.name))).map (fun nm => ⟨nm, lim, 1, []⟩)⟩
def nwR (nd : List Nodes.D) (lim : Int) : CC × Bool := if (NodesM.gnB nd && inB lim 0 10000) = true then (nwC nd lim, true) else (noCC, false)
theorem nw_yes {nd : List Nodes.D} {lim : Int} (h1 : NodesM.gnB nd = true) (h2 : inB lim 0 10000 = true) : nwR nd lim = (nwC nd lim, true) := by unfold nwR; simp [h1, h2]
theorem nw_no {nd : List Nodes.D} {lim : Int} (h : NodesM.gnB nd = false ∨ inB lim 0 10000 = false) : nwR nd lim = (noCC, false) := by
  unfold nwR
  rcases h with h | h <;> simp [h]
theorem its_none (l : List ByteArray) (lim : Int) : its (l.map (fun nm => (⟨nm, lim, 1, []⟩ : Pls.Core))) = 0 := by
  induction l with
  | nil => rfl
  | cons x r ih =>
    show 0 + its (r.map (fun nm => (⟨nm, lim, 1, []⟩ : Pls.Core))) = 0
    rw [ih]
theorem sm_new (nd : List Nodes.D) (lim : Int) : SmC (nwR nd lim).1 := by
  unfold nwR
  split
  · rename_i hc
    simp only [Bool.and_eq_true] at hc
    have m8 := Ring.good_len hc.1
    have hle := insAll_len (nd.map (·.name))
    simp only [List.length_map] at hle
    refine ⟨by show nd.length ≤ _; omega, by simp [nwC], ?_, ?_⟩
    · show ((insAll _).map _).length ≤ _
      rw [List.length_map]; omega
    · show its (List.map _ _) ≤ _
      rw [its_none]; omega
  · exact sm_no
end NewClusterL
end Go.Proofs.YthgcfklfpllgnaaDoor
/-
  A list of links that hang together by their numbers, as plain data. No Go function is spoken of here.
-/
namespace Go.Proofs.YthgcfklfpllgnaaDoor
namespace Chain
open Go.RowKit Base Items
set_option linter.unusedVariables false

structure Lnk where
  val : Itm
  ahead : Nat
  behind : Nat
def zl : Lnk := ⟨zero, 0, 0⟩
def lk (ls : List Lnk) (p : Nat) : Lnk := ls.getD p zl
theorem lk_set (ls : List Lnk) (i j : Nat) (x : Lnk) (hi : i < ls.length) : lk (ls.set i x) j = if j = i then x else lk ls j := by
  unfold lk
  rw [List.getD_eq_getElem?_getD, List.getD_eq_getElem?_getD, List.getElem?_set]
  by_cases h : i = j
  · subst h; simp [hi]
  · simp [h, Ne.symm h]
theorem lk_push (ls : List Lnk) (x : Lnk) (j : Nat) : lk (ls ++ [x]) j = if j = ls.length then x else lk ls j := by
  unfold lk
  rw [List.getD_eq_getElem?_getD, List.getD_eq_getElem?_getD, List.getElem?_append]
  by_cases h : j < ls.length
  · rw [if_pos h, if_neg (by omega)]
  · rw [if_neg h]
    by_cases h2 : j = ls.length
    · subst h2; simp
    · rw [if_neg h2, List.getElem?_eq_none (by simp; omega), List.getElem?_eq_none (by omega)]

/-- The numbers from a on, one behind the other, and then 0. -/
def Fw (f : Nat → Nat) : Nat → List Nat → Prop
  | a, [] => f a = 0
  | a, b :: r => f a = b ∧ Fw f b r
/-- Each number's is the one ahead of it, and 0's the last. -/
def Bw (g : Nat → Nat) : Nat → List Nat → Prop
  | a, [] => g 0 = a
  | a, b :: r => g b = a ∧ Bw g b r

theorem Fw.congr {f f' : Nat → Nat} : ∀ {a : Nat} {l : List Nat}, Fw f a l → (∀ p ∈ a :: l, f' p = f p) → Fw f' a l
  | a, [], h, e => by have := e a (by simp); simp only [Fw] at h ⊢; omega
  | a, b :: r, h, e => by
    simp only [Fw] at h ⊢
    exact ⟨(e a (by simp)).trans h.1, h.2.congr (fun p hp => e p (List.mem_cons_of_mem _ hp))⟩
theorem Bw.congr {g g' : Nat → Nat} : ∀ {a : Nat} {l : List Nat}, Bw g a l → (∀ p ∈ l, g' p = g p) → g' 0 = g 0 → Bw g' a l
  | a, [], h, _, e0 => by simp only [Bw] at h ⊢; omega
  | a, b :: r, h, e, e0 => by
    simp only [Bw] at h ⊢
    exact ⟨(e b (by simp)).trans h.1, h.2.congr (fun p hp => e p (List.mem_cons_of_mem _ hp)) e0⟩
theorem Bw.last {g : Nat → Nat} : ∀ {a : Nat} {l : List Nat}, Bw g a l → g 0 = (a :: l).getLast (by simp)
  | a, [], h => h
  | a, b :: r, h => by
    simp only [Bw] at h
    rw [List.getLast_cons (by simp)]
    exact h.2.last
theorem Fw.snoc {f f' : Nat → Nat} {n : Nat} : ∀ {a : Nat} {l : List Nat}, Fw f a l → (a :: l).Nodup → (∀ p ∈ a :: l, p ≠ (a :: l).getLast (by simp) → f' p = f p) → f' ((a :: l).getLast (by simp)) = n → f' n = 0 → Fw f' a (l ++ [n])
  | a, [], h, _, _, e1, e2 => by simp at e1; simp only [List.nil_append, Fw]; exact ⟨e1, e2⟩
  | a, b :: r, h, hn, e, e1, e2 => by
    simp only [Fw] at h
    have hl : (a :: b :: r).getLast (by simp) = (b :: r).getLast (by simp) := List.getLast_cons (by simp)
    have hne : a ≠ (b :: r).getLast (by simp) := fun ha => (List.nodup_cons.1 hn).1 (ha ▸ List.getLast_mem _)
    simp only [List.cons_append, Fw]
    refine ⟨(e a (by simp) (by rw [hl]; exact hne)).trans h.1, h.2.snoc (List.nodup_cons.1 hn).2 (fun p hp hpn => e p (List.mem_cons_of_mem _ hp) (by rw [hl]; exact hpn)) (by rw [← hl]; exact e1) e2⟩
theorem Bw.snoc {g g' : Nat → Nat} {n : Nat} : ∀ {a : Nat} {l : List Nat}, Bw g a l → (∀ p ∈ l, g' p = g p) → g' n = (a :: l).getLast (by simp) → g' 0 = n → Bw g' a (l ++ [n])
  | a, [], h, _, e1, e2 => by simp at e1; simp only [List.nil_append, Bw]; exact ⟨e1, e2⟩
  | a, b :: r, h, e, e1, e2 => by
    simp only [Bw] at h
    rw [List.getLast_cons (by simp)] at e1
    simp only [List.cons_append, Bw]
    exact ⟨(e b (by simp)).trans h.1, h.2.snoc (fun p hp => e p (List.mem_cons_of_mem _ hp)) e1 e2⟩
theorem Bw.mid {g : Nat → Nat} {n : Nat} {l2 : List Nat} : ∀ {a : Nat} {l1 : List Nat}, Bw g a (l1 ++ n :: l2) → g n = (a :: l1).getLast (by simp)
  | a, [], h => by simp only [List.nil_append, Bw] at h; simpa using h.1
  | a, b :: r, h => by
    simp only [List.cons_append, Bw] at h
    rw [List.getLast_cons (by simp)]
    exact h.2.mid
theorem Fw.mid {f : Nat → Nat} {n : Nat} {l2 : List Nat} : ∀ {a : Nat} {l1 : List Nat}, Fw f a (l1 ++ n :: l2) → Fw f n l2
  | a, [], h => by simp only [List.nil_append, Fw] at h; exact h.2
  | a, b :: r, h => by simp only [List.cons_append, Fw] at h; exact h.2.mid
theorem Fw.head {f : Nat → Nat} {a : Nat} : ∀ {l : List Nat}, Fw f a l → f a = l.headD 0
  | [], h => h
  | b :: r, h => h.1
theorem Fw.del {f f' : Nat → Nat} {n : Nat} {l2 : List Nat} : ∀ {a : Nat} {l1 : List Nat}, Fw f a (l1 ++ n :: l2) → (a :: (l1 ++ n :: l2)).Nodup → (∀ p ∈ a :: (l1 ++ l2), p ≠ (a :: l1).getLast (by simp) → f' p = f p) → f' ((a :: l1).getLast (by simp)) = f n → Fw f' a (l1 ++ l2)
  | a, [], h, hn, e, e1 => by
    simp only [List.nil_append, Fw] at h
    simp at e1
    simp only [List.nil_append] at e hn ⊢
    cases l2 with
    | nil => simp only [Fw] at h ⊢; omega
    | cons c r =>
      simp only [Fw] at h ⊢
      refine ⟨by omega, h.2.2.congr (fun p hp => e p (List.mem_cons_of_mem _ hp) ?_)⟩
      simp only [List.getLast_singleton]
      intro hpa
      exact (List.nodup_cons.1 hn).1 (hpa ▸ List.mem_cons_of_mem _ hp)
  | a, b :: r, h, hn, e, e1 => by
    simp only [List.cons_append, Fw] at h
    have hl : (a :: b :: r).getLast (by simp) = (b :: r).getLast (by simp) := List.getLast_cons (by simp)
    have hne : a ≠ (b :: r).getLast (by simp) := fun ha => (List.nodup_cons.1 hn).1 (by
      have hm : (b :: r).getLast (by simp) ∈ b :: r := List.getLast_mem _
      rw [← ha] at hm
      exact List.mem_append_left _ hm)
    simp only [List.cons_append, Fw]
    exact ⟨(e a (by simp) (by rw [hl]; exact hne)).trans h.1, h.2.del (List.nodup_cons.1 hn).2 (fun p hp hpn => e p (List.mem_cons_of_mem _ hp) (by rw [hl]; exact hpn)) (by rw [← hl]; exact e1)⟩
theorem Bw.del {g g' : Nat → Nat} {n : Nat} {l2 : List Nat} : ∀ {a : Nat} {l1 : List Nat}, Bw g a (l1 ++ n :: l2) → (l1 ++ n :: l2).Nodup → 0 ∉ l1 ++ n :: l2 → (∀ p, p = 0 ∨ p ∈ l1 ++ l2 → p ≠ l2.headD 0 → g' p = g p) → g' (l2.headD 0) = g n → Bw g' a (l1 ++ l2)
  | a, [], h, hn, h0, e, e1 => by
    simp only [List.nil_append, Bw] at h e h0 hn ⊢
    cases l2 with
    | nil => simp only [List.headD_nil, Bw] at e1 h ⊢; omega
    | cons c r =>
      simp only [List.headD_cons, Bw] at h e e1 ⊢
      refine ⟨by omega, h.2.2.congr (fun p hp => e p (.inr (List.mem_cons_of_mem _ hp)) ?_) (e 0 (.inl rfl) ?_)⟩
      · intro hpc
        subst hpc
        exact (List.nodup_cons.1 (List.nodup_cons.1 hn).2).1 hp
      · intro hc
        subst hc
        simp at h0
  | a, b :: r, h, hn, h0, e, e1 => by
    simp only [List.cons_append, Bw] at h ⊢
    refine ⟨(e b (.inr (by simp)) ?_).trans h.1, h.2.del (List.nodup_cons.1 hn).2 (fun hm => h0 (List.mem_cons_of_mem _ hm)) (fun p hp hpn => e p (hp.imp id (fun hm => List.mem_cons_of_mem _ hm)) hpn) e1⟩
    intro hb
    cases l2 with
    | nil => simp at hb; subst hb; simp at h0
    | cons c s =>
      simp at hb
      subst hb
      exact (List.nodup_cons.1 hn).1 (by simp)

/-- Links that hang together: 'order' are the numbers of those that are in use, in their order; 'free' those that are not. -/
structure Good (ls : List Lnk) (free order : List Nat) : Prop where
  nodup : order.Nodup
  inO : ∀ p ∈ order, 0 < p ∧ p < ls.length
  fnodup : free.Nodup
  inF : ∀ p ∈ free, 0 < p ∧ p < ls.length ∧ p ∉ order
  len : ls.length = 1 + order.length + free.length
  fw : Fw (fun p => (lk ls p).behind) 0 order
  bw : Bw (fun p => (lk ls p).ahead) 0 order
def itemsOf (ls : List Lnk) (order : List Nat) : List Itm := order.map (fun p => (lk ls p).val)

theorem Good.zero {ls : List Lnk} {free order : List Nat} (h : Good ls free order) : 0 ∉ order := fun hm => by have := (h.inO 0 hm).1; omega
theorem Good.cons {ls : List Lnk} {free order : List Nat} (h : Good ls free order) : (0 :: order).Nodup := List.nodup_cons.2 ⟨h.zero, h.nodup⟩
theorem good_new : Good [zl] [] [] := ⟨by simp, by simp, by simp, by simp, rfl, rfl, rfl⟩

theorem Good.perm {ls : List Lnk} {free free' order : List Nat} (h : Good ls free order) (hp : free.Perm free') : Good ls free' order :=
  ⟨h.nodup, h.inO, hp.nodup_iff.1 h.fnodup, fun p hm => h.inF p (hp.mem_iff.2 hm), by rw [h.len, hp.length_eq], h.fw, h.bw⟩

/-- The links behind putLast at a number that is not in use. -/
def putL (ls : List Lnk) (n : Nat) (x : Itm) : List Lnk :=
  let last := (lk ls 0).ahead
  let l1 := ls.set n ⟨x, last, 0⟩
  let l2 := l1.set last { lk l1 last with behind := n }
  l2.set 0 { lk l2 0 with ahead := n }
theorem putL_len (ls : List Lnk) (n : Nat) (x : Itm) : (putL ls n x).length = ls.length := by simp [putL]
theorem last_lt {ls : List Lnk} {free order : List Nat} (h : Good ls free order) : (lk ls 0).ahead < ls.length ∧ ((lk ls 0).ahead ∈ 0 :: order) := by
  have e : (lk ls 0).ahead = (0 :: order).getLast (by simp) := h.bw.last
  rw [e]
  have hm := List.getLast_mem (l := 0 :: order) (by simp)
  refine ⟨?_, hm⟩
  rcases List.mem_cons.1 hm with h0 | h1
  · rw [h0]; have := h.len; omega
  · exact (h.inO _ h1).2
theorem putL_at {ls : List Lnk} {n : Nat} {x : Itm} (hn : 0 < n) (hl : n < ls.length) (h0 : (lk ls 0).ahead < ls.length) (hne : n ≠ (lk ls 0).ahead) (p : Nat) :
    (lk (putL ls n x) p).val = (if p = n then x else (lk ls p).val) ∧ (lk (putL ls n x) p).behind = (if p = n then 0 else if p = (lk ls 0).ahead then n else (lk ls p).behind) ∧
    (lk (putL ls n x) p).ahead = (if p = 0 then n else if p = n then (lk ls 0).ahead else (lk ls p).ahead) := by
  unfold putL
  generalize (lk ls 0).ahead = last at h0 hne ⊢
  simp only
  rw [lk_set _ 0 p _ (by simp; omega), lk_set _ last 0 _ (by simp; omega), lk_set _ last p _ (by simp; omega), lk_set _ n last _ hl, lk_set _ n 0 _ hl, lk_set _ n p _ hl]
  by_cases hp0 : p = 0
  · subst hp0
    by_cases hl0 : 0 = last
    · subst hl0
      simp [show (0 : Nat) ≠ n by omega]
    · simp [hl0, show (0 : Nat) ≠ n by omega]
  · by_cases hpl : p = last
    · subst hpl
      simp [hp0, Ne.symm hne]
    · by_cases hpn : p = n
      · subst hpn
        simp [hp0, hpl]
      · simp [hp0, hpl, hpn]

/-- putLast at a number that is not in use. -/
theorem Good.put {ls : List Lnk} {free order : List Nat} {n : Nat} (h : Good ls (n :: free) order) (x : Itm) : Good (putL ls n x) free (order ++ [n]) := by
  obtain ⟨hn0, hnl, hno⟩ := h.inF n (by simp)
  obtain ⟨hl, hm⟩ := last_lt h
  have hne : n ≠ (lk ls 0).ahead := by
    intro e
    rw [← e] at hm
    rcases List.mem_cons.1 hm with h0 | h1
    · omega
    · exact hno h1
  have ht := fun p => putL_at (x := x) hn0 hnl hl hne p
  have hlast : (lk ls 0).ahead = (0 :: order).getLast (by simp) := h.bw.last
  refine ⟨?_, ?_, (List.nodup_cons.1 h.fnodup).2, ?_, ?_, ?_, ?_⟩
  · exact List.nodup_append.2 ⟨h.nodup, by simp, fun a ha b hb => by simp at hb; subst hb; intro e; subst e; exact hno ha⟩
  · intro p hp
    rw [putL_len]
    rcases List.mem_append.1 hp with h1 | h1
    · exact h.inO p h1
    · simp at h1; subst h1; exact ⟨hn0, hnl⟩
  · intro p hp
    rw [putL_len]
    obtain ⟨h1, h2, h3⟩ := h.inF p (List.mem_cons_of_mem _ hp)
    refine ⟨h1, h2, fun hm => ?_⟩
    rcases List.mem_append.1 hm with h4 | h4
    · exact h3 h4
    · simp at h4; subst h4; exact (List.nodup_cons.1 h.fnodup).1 hp
  · rw [putL_len]
    have := h.len
    simp at this ⊢
    omega
  · refine h.fw.snoc h.cons (fun p hp hpl => ?_) ?_ ?_
    · rw [(ht p).2.1, ← hlast] at *
      rw [if_neg, if_neg hpl]
      intro e
      subst e
      rcases List.mem_cons.1 hp with h0 | h1
      · omega
      · exact hno h1
    · rw [← hlast, (ht _).2.1, if_neg (Ne.symm hne), if_pos rfl]
    · rw [(ht n).2.1, if_pos rfl]
  · refine h.bw.snoc (fun p hp => ?_) ?_ ?_
    · rw [(ht p).2.2, if_neg, if_neg]
      · intro e; subst e; exact hno hp
      · intro e; subst e; exact h.zero hp
    · rw [← hlast, (ht n).2.2, if_neg (by omega), if_pos rfl]
    · rw [(ht 0).2.2, if_pos rfl]
theorem items_put {ls : List Lnk} {free order : List Nat} {n : Nat} (h : Good ls (n :: free) order) (x : Itm) : itemsOf (putL ls n x) (order ++ [n]) = itemsOf ls order ++ [x] := by
  obtain ⟨hn0, hnl, hno⟩ := h.inF n (by simp)
  obtain ⟨hl, hm⟩ := last_lt h
  have hne : n ≠ (lk ls 0).ahead := by
    intro e
    rw [← e] at hm
    rcases List.mem_cons.1 hm with h0 | h1
    · omega
    · exact hno h1
  have ht := fun p => (putL_at (x := x) hn0 hnl hl hne p).1
  unfold itemsOf
  rw [List.map_append]
  congr 1
  · apply List.map_congr_left
    intro p hp
    rw [ht, if_neg]
    intro e; subst e; exact hno hp
  · simp [ht]
/-- A link more, not in use. -/
theorem Good.more {ls : List Lnk} {order : List Nat} (h : Good ls [] order) : Good (ls ++ [zl]) [ls.length] order := by
  have ht := fun p => lk_push ls zl p
  have h0 : ls.length ≠ 0 := by have := h.len; omega
  refine ⟨h.nodup, fun p hp => ?_, by simp, fun p hp => ?_, ?_, ?_, ?_⟩
  · have := h.inO p hp; simp; omega
  · simp at hp
    subst hp
    refine ⟨by omega, by simp, fun hm => ?_⟩
    have := (h.inO _ hm).2; omega
  · have := h.len; simp at this ⊢; omega
  · refine h.fw.congr (fun p hp => ?_)
    rw [ht, if_neg]
    rcases List.mem_cons.1 hp with h1 | h1
    · omega
    · have := (h.inO _ h1).2; omega
  · refine h.bw.congr (fun p hp => ?_) ?_
    · rw [ht, if_neg]
      have := (h.inO _ hp).2; omega
    · rw [ht, if_neg (by omega)]
theorem items_more {ls : List Lnk} {free order : List Nat} (h : Good ls free order) : itemsOf (ls ++ [zl]) order = itemsOf ls order := by
  unfold itemsOf
  apply List.map_congr_left
  intro p hp
  rw [lk_push, if_neg]
  have := (h.inO _ hp).2; omega

/-- The links behind take. -/
def takeL (ls : List Lnk) (n : Nat) : List Lnk :=
  let l1 := ls.set (lk ls n).ahead { lk ls (lk ls n).ahead with behind := (lk ls n).behind }
  l1.set (lk ls n).behind { lk l1 (lk ls n).behind with ahead := (lk ls n).ahead }
theorem takeL_len (ls : List Lnk) (n : Nat) : (takeL ls n).length = ls.length := by simp [takeL]
theorem takeL_at {ls : List Lnk} {n : Nat} (h1 : (lk ls n).ahead < ls.length) (h2 : (lk ls n).behind < ls.length) (p : Nat) :
    (lk (takeL ls n) p).val = (lk ls p).val ∧ (lk (takeL ls n) p).behind = (if p = (lk ls n).ahead then (lk ls n).behind else (lk ls p).behind) ∧
    (lk (takeL ls n) p).ahead = (if p = (lk ls n).behind then (lk ls n).ahead else (lk ls p).ahead) := by
  unfold takeL
  generalize (lk ls n).ahead = a at h1 ⊢
  generalize (lk ls n).behind = b at h2 ⊢
  simp only
  rw [lk_set _ b p _ (by simp; omega), lk_set _ a b _ h1, lk_set _ a p _ h1]
  by_cases hpb : p = b
  · subst hpb
    by_cases hpa : p = a
    · subst hpa; simp
    · simp [hpa]
  · by_cases hpa : p = a
    · subst hpa; simp [hpb]
    · simp [hpb, hpa]
theorem mid_lt {ls : List Lnk} {free l1 l2 : List Nat} {n : Nat} (h : Good ls free (l1 ++ n :: l2)) : (lk ls n).ahead < ls.length ∧ (lk ls n).behind < ls.length ∧ (lk ls n).ahead = (0 :: l1).getLast (by simp) ∧ (lk ls n).behind = l2.headD 0 := by
  have e1 : (lk ls n).ahead = (0 :: l1).getLast (by simp) := h.bw.mid
  have e2 : (lk ls n).behind = l2.headD 0 := h.fw.mid.head
  refine ⟨?_, ?_, e1, e2⟩
  · rw [e1]
    rcases List.mem_cons.1 (List.getLast_mem (l := 0 :: l1) (by simp)) with h0 | h1
    · rw [h0]; have := h.len; omega
    · exact (h.inO _ (List.mem_append_left _ h1)).2
  · rw [e2]
    cases l2 with
    | nil => have := h.len; simp at this ⊢; omega
    | cons c r => exact (h.inO c (by simp)).2
theorem Good.take {ls : List Lnk} {free l1 l2 : List Nat} {n : Nat} (h : Good ls free (l1 ++ n :: l2)) : Good (takeL ls n) (free ++ [n]) (l1 ++ l2) := by
  obtain ⟨ha, hb, ea, eb⟩ := mid_lt h
  have ht := fun p => takeL_at ha hb p
  have hsub : ∀ p, p ∈ l1 ++ l2 → p ∈ l1 ++ n :: l2 := fun p hp => by
    rcases List.mem_append.1 hp with h1 | h1
    · exact List.mem_append_left _ h1
    · exact List.mem_append_right _ (List.mem_cons_of_mem _ h1)
  have hnn : n ∉ l1 ++ l2 := by
    have h1 := h.nodup
    rw [List.nodup_append] at h1
    intro hm
    rcases List.mem_append.1 hm with h2 | h2
    · exact h1.2.2 n h2 n (by simp) rfl
    · exact (List.nodup_cons.1 h1.2.1).1 h2
  refine ⟨?_, ?_, ?_, ?_, ?_, ?_, ?_⟩
  · have h1 := h.nodup
    rw [List.nodup_append] at h1 ⊢
    exact ⟨h1.1, (List.nodup_cons.1 h1.2.1).2, fun a ha b hb => h1.2.2 a ha b (List.mem_cons_of_mem _ hb)⟩
  · intro p hp
    rw [takeL_len]
    exact h.inO p (hsub p hp)
  · refine List.nodup_append.2 ⟨h.fnodup, by simp, fun c hc d hd => by
      simp at hd; subst hd; intro e; subst e
      exact (h.inF _ hc).2.2 (by simp)⟩
  · intro p hp
    rw [takeL_len]
    rcases List.mem_append.1 hp with h1 | h1
    · obtain ⟨h2, h3, h4⟩ := h.inF p h1
      exact ⟨h2, h3, fun hm => h4 (hsub p hm)⟩
    · simp at h1
      subst h1
      have := h.inO p (by simp)
      exact ⟨this.1, this.2, hnn⟩
  · rw [takeL_len]
    have := h.len
    simp at this ⊢
    omega
  · refine h.fw.del h.cons (fun p hp hpl => ?_) ?_
    · rw [← ea] at hpl
      rw [(ht p).2.1, if_neg hpl]
    · rw [← ea, (ht _).2.1, if_pos rfl]
  · refine h.bw.del h.nodup h.zero (fun p hp hpl => ?_) ?_
    · rw [← eb] at hpl
      rw [(ht p).2.2, if_neg hpl]
    · rw [← eb, (ht _).2.2, if_pos rfl]
theorem items_take {ls : List Lnk} {free l1 l2 : List Nat} {n : Nat} (h : Good ls free (l1 ++ n :: l2)) (l : List Nat) : itemsOf (takeL ls n) l = itemsOf ls l := by
  obtain ⟨ha, hb, ea, eb⟩ := mid_lt h
  unfold itemsOf
  exact List.map_congr_left (fun p _ => (takeL_at ha hb p).1)
end Chain
end Go.Proofs.YthgcfklfpllgnaaDoor
/-
  Links as they lie in memory: seven cells each, one behind the other; a row of whole numbers. No Go function is spoken of here.
-/
namespace Go.Proofs.YthgcfklfpllgnaaDoor
namespace Chain
open Go.RowKit Base Items Keep
set_option linter.unusedVariables false

theorem row_set {w : World} {e : TypeId} {size g n cap : Nat} {xs : List Value} (h : Row w e size g n cap xs) {j : Nat} (hj : j < n * size) (u : Value) : Row (w.setCell ⟨g, j, none⟩ u) e size g n cap (xs.set j u) := by
  obtain ⟨h1, cur, hh, h2, h3, h4, h5⟩ := h
  refine ⟨by simp [h1], cur.setIfInBounds j u, ?_, h2, h3, by simp [h4], ?_⟩
  · simp [World.setCell, Array.getElem?_modify, hh]
  · rw [Array.toList_setIfInBounds, ← h5, List.take_set]
theorem row_pop {w : World} {e : TypeId} {g n cap : Nat} {xs : List Value} (h : Row w e 1 g (n + 1) cap xs) : Row w e 1 g n cap (xs.take n) := by
  obtain ⟨h1, cur, hh, h2, h3, h4, h5⟩ := h
  refine ⟨by simp [h1], cur, hh, by omega, h3, h4, ?_⟩
  rw [← h5, List.take_take]
  congr 1
  omega

def lcells (x : Lnk) : List Value := [.string x.val.key, .int .i64 x.val.flags, .string x.val.data, .int .i64 x.val.upto, .int .i64 x.val.token, .int .i64 x.ahead, .int .i64 x.behind]
def lflat (ls : List Lnk) : List Value := ls.flatMap lcells
theorem lflat_append (a b : List Lnk) : lflat (a ++ b) = lflat a ++ lflat b := by simp [lflat]
theorem lflat_one (x : Lnk) : lflat [x] = lcells x := by simp [lflat]
theorem lflat_length (ls : List Lnk) : (lflat ls).length = ls.length * 7 := by
  induction ls with
  | nil => rfl
  | cons x r ih =>
    have e : lflat (x :: r) = lcells x ++ lflat r := by simp [lflat]
    rw [e, List.length_append, ih]
    simp [lcells]; omega
theorem lflat_get (ls : List Lnk) (p : Nat) (hp : p < ls.length) (i : Nat) (hi : i < 7) : (lflat ls)[p * 7 + i]? = (lcells (lk ls p))[i]? := by
  induction ls generalizing p with
  | nil => simp at hp
  | cons x r ih =>
    have e : lflat (x :: r) = lcells x ++ lflat r := by simp [lflat]
    have el : (lcells x).length = 7 := rfl
    rw [e]
    cases p with
    | zero => rw [List.getElem?_append_left (by rw [el]; omega)]; simp [lk]
    | succ q =>
      rw [List.getElem?_append_right (by rw [el]; omega), el, show (q + 1) * 7 + i - 7 = q * 7 + i by omega, ih q (by simpa using hp)]
      simp [lk]
theorem lflat_set (ls : List Lnk) (p : Nat) (hp : p < ls.length) (i : Nat) (hi : i < 7) (v : Value) (x : Lnk) (hx : lcells x = (lcells (lk ls p)).set i v) : (lflat ls).set (p * 7 + i) v = lflat (ls.set p x) := by
  induction ls generalizing p with
  | nil => simp at hp
  | cons y r ih =>
    have e : ∀ z q, lflat (z :: q) = lcells z ++ lflat q := by simp [lflat]
    have el : (lcells y).length = 7 := rfl
    cases p with
    | zero =>
      simp only [lk, List.getD_cons_zero] at hx
      rw [e, List.set_append, if_pos (by rw [el]; omega), List.set_cons_zero, e, hx]
      simp
    | succ q =>
      simp only [lk, List.getD_cons_succ] at hx
      rw [e, List.set_append, if_neg (by rw [el]; omega), el, show (q + 1) * 7 + i - 7 = q * 7 + i by omega, ih q (by simpa using hp) hx, List.set_cons_succ, e]
theorem lcells_one (x : Lnk) (u : Value) (hu : u ∈ lcells x) : u.oneCell' = true := by
  simp only [lcells, List.mem_cons, List.not_mem_nil, or_false] at hu
  rcases hu with rfl | rfl | rfl | rfl | rfl | rfl | rfl <;> rfl

/-- A row of links. -/
def LinksAt (w : World) (t : TypeId) (g cap : Nat) (ls : List Lnk) : Prop := Row w t 7 g ls.length cap (lflat ls)
section
variable {w w' : World} {t : TypeId} {g cap : Nat} {ls : List Lnk}
theorem LinksAt.cell (h : LinksAt w t g cap ls) {p : Nat} (hp : p < ls.length) {i : Nat} (hi : i < 7) : w.cell? ⟨g, p * 7 + i, none⟩ = (lcells (lk ls p))[i]? := by
  have hg := lflat_get ls p hp i hi
  obtain ⟨u, hu⟩ : ∃ u, (lcells (lk ls p))[i]? = some u := ⟨_, List.getElem?_eq_getElem (by simpa [lcells] using hi)⟩
  rw [hu] at hg ⊢
  exact Row.cell h hg
theorem LinksAt.item (h : LinksAt w t g cap ls) {p : Nat} (hp : p < ls.length) : At w g (p * 7) (lk ls p).val :=
  ⟨h.cell hp (i := 0) (by omega), h.cell hp (i := 1) (by omega), h.cell hp (i := 2) (by omega), h.cell hp (i := 3) (by omega), h.cell hp (i := 4) (by omega)⟩
theorem LinksAt.ahead (h : LinksAt w t g cap ls) {p : Nat} (hp : p < ls.length) : w.cell? ⟨g, p * 7 + 5, none⟩ = some (.int .i64 (lk ls p).ahead) := h.cell hp (i := 5) (by omega)
theorem LinksAt.behind (h : LinksAt w t g cap ls) {p : Nat} (hp : p < ls.length) : w.cell? ⟨g, p * 7 + 6, none⟩ = some (.int .i64 (lk ls p).behind) := h.cell hp (i := 6) (by omega)
theorem LinksAt.setAhead (h : LinksAt w t g cap ls) {p : Nat} (hp : p < ls.length) (n : Nat) : LinksAt (w.setCell ⟨g, p * 7 + 5, none⟩ (.int .i64 n)) t g cap (ls.set p { lk ls p with ahead := n }) := by
  have h1 := row_set h (j := p * 7 + 5) (by omega) (.int .i64 n)
  rw [lflat_set ls p hp 5 (by omega) (.int .i64 n) { lk ls p with ahead := n } rfl] at h1
  unfold LinksAt
  rw [List.length_set]
  exact h1
theorem LinksAt.setBehind (h : LinksAt w t g cap ls) {p : Nat} (hp : p < ls.length) (n : Nat) : LinksAt (w.setCell ⟨g, p * 7 + 6, none⟩ (.int .i64 n)) t g cap (ls.set p { lk ls p with behind := n }) := by
  have h1 := row_set h (j := p * 7 + 6) (by omega) (.int .i64 n)
  rw [lflat_set ls p hp 6 (by omega) (.int .i64 n) { lk ls p with behind := n } rfl] at h1
  unfold LinksAt
  rw [List.length_set]
  exact h1
/-- A whole link is laid, cell by cell. -/
theorem LinksAt.setAll (h : LinksAt w t g cap ls) {p : Nat} (hp : p < ls.length) (x : Lnk) :
    LinksAt (((((((w.setCell ⟨g, p * 7, none⟩ (.string x.val.key)).setCell ⟨g, p * 7 + 1, none⟩ (.int .i64 x.val.flags)).setCell ⟨g, p * 7 + 2, none⟩ (.string x.val.data)).setCell ⟨g, p * 7 + 3, none⟩ (.int .i64 x.val.upto)).setCell ⟨g, p * 7 + 4, none⟩ (.int .i64 x.val.token)).setCell ⟨g, p * 7 + 5, none⟩ (.int .i64 x.ahead)).setCell ⟨g, p * 7 + 6, none⟩ (.int .i64 x.behind)) t g cap (ls.set p x) := by
  have h0 := row_set h (j := p * 7) (by omega) (.string x.val.key)
  have h1 := row_set h0 (j := p * 7 + 1) (by omega) (.int .i64 x.val.flags)
  have h2 := row_set h1 (j := p * 7 + 2) (by omega) (.string x.val.data)
  have h3 := row_set h2 (j := p * 7 + 3) (by omega) (.int .i64 x.val.upto)
  have h4 := row_set h3 (j := p * 7 + 4) (by omega) (.int .i64 x.val.token)
  have h5 := row_set h4 (j := p * 7 + 5) (by omega) (.int .i64 x.ahead)
  have h6 := row_set h5 (j := p * 7 + 6) (by omega) (.int .i64 x.behind)
  have e0 := lflat_set ls p hp 0 (by omega) (.string x.val.key) ⟨⟨x.val.key, (lk ls p).val.flags, (lk ls p).val.data, (lk ls p).val.upto, (lk ls p).val.token⟩, (lk ls p).ahead, (lk ls p).behind⟩ rfl
  rw [Nat.add_zero] at e0
  have step : ∀ (y z : Lnk) (i : Nat) (v : Value), i < 7 → lcells z = (lcells y).set i v → (lflat (ls.set p y)).set (p * 7 + i) v = lflat (ls.set p z) := by
    intro y z i v hi hz
    rw [lflat_set (ls.set p y) p (by simpa using hp) i hi v z (by rw [lk_set _ _ _ _ hp, if_pos rfl]; exact hz), List.set_set]
  have s1 := step ⟨⟨x.val.key, (lk ls p).val.flags, (lk ls p).val.data, (lk ls p).val.upto, (lk ls p).val.token⟩, (lk ls p).ahead, (lk ls p).behind⟩ ⟨⟨x.val.key, x.val.flags, (lk ls p).val.data, (lk ls p).val.upto, (lk ls p).val.token⟩, (lk ls p).ahead, (lk ls p).behind⟩ 1 (.int .i64 x.val.flags) (by omega) rfl
  have s2 := step ⟨⟨x.val.key, x.val.flags, (lk ls p).val.data, (lk ls p).val.upto, (lk ls p).val.token⟩, (lk ls p).ahead, (lk ls p).behind⟩ ⟨⟨x.val.key, x.val.flags, x.val.data, (lk ls p).val.upto, (lk ls p).val.token⟩, (lk ls p).ahead, (lk ls p).behind⟩ 2 (.string x.val.data) (by omega) rfl
  have s3 := step ⟨⟨x.val.key, x.val.flags, x.val.data, (lk ls p).val.upto, (lk ls p).val.token⟩, (lk ls p).ahead, (lk ls p).behind⟩ ⟨⟨x.val.key, x.val.flags, x.val.data, x.val.upto, (lk ls p).val.token⟩, (lk ls p).ahead, (lk ls p).behind⟩ 3 (.int .i64 x.val.upto) (by omega) rfl
  have s4 := step ⟨⟨x.val.key, x.val.flags, x.val.data, x.val.upto, (lk ls p).val.token⟩, (lk ls p).ahead, (lk ls p).behind⟩ ⟨⟨x.val.key, x.val.flags, x.val.data, x.val.upto, x.val.token⟩, (lk ls p).ahead, (lk ls p).behind⟩ 4 (.int .i64 x.val.token) (by omega) rfl
  have s5 := step ⟨⟨x.val.key, x.val.flags, x.val.data, x.val.upto, x.val.token⟩, (lk ls p).ahead, (lk ls p).behind⟩ ⟨⟨x.val.key, x.val.flags, x.val.data, x.val.upto, x.val.token⟩, x.ahead, (lk ls p).behind⟩ 5 (.int .i64 x.ahead) (by omega) rfl
  have s6 := step ⟨⟨x.val.key, x.val.flags, x.val.data, x.val.upto, x.val.token⟩, x.ahead, (lk ls p).behind⟩ x 6 (.int .i64 x.behind) (by omega) rfl
  rw [e0, s1, s2, s3, s4, s5, s6] at h6
  unfold LinksAt
  rw [List.length_set]
  exact h6
end

/-- A row of whole numbers, or nothing yet. -/
def ints (l : List Nat) : List Value := l.map (fun p : Nat => .int .i64 (p : Int))
end Chain
end Go.Proofs.YthgcfklfpllgnaaDoor
