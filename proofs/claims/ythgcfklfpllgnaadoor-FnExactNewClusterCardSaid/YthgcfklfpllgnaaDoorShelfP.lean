/-
  A shelf: a store at work, in memory; and the map of its keys. No Go function is spoken of here, but the shelf's cells.
-/
import Derived.Test.YthgcfklfpllgnaaDoorZ27
namespace Go.Proofs.YthgcfklfpllgnaaDoor
namespace Shelf
open Go.RowKit Base Items Keep Own Chain Store
set_option linter.unusedVariables false

def kk (k : ByteArray) : Lit := .string k.data.toList
theorem kk_key (k : ByteArray) : WideAt.IsKeyLit (kk k) := by simp [kk, WideAt.IsKeyLit]
theorem kk_inj {a b : ByteArray} (h : kk a = kk b) : a = b := by
  unfold kk at h
  simp only [Lit.string.injEq] at h
  exact Go.WideShapes.bytes_inj h
/-- The map beside the links: at each key the number of its link, and nothing else. -/
structure MapIs (D : DataW Unit) (ls : List Lnk) (order : List Nat) : Prop where
  hit : ∀ p ∈ order, Maps.has D (kk (lk ls p).val.key) = true ∧ D.atKey (kk (lk ls p).val.key) (.lit (.int .i64 0)) = .lit (.int .i64 (p : Nat))
  miss : ∀ k, (∀ p ∈ order, (lk ls p).val.key ≠ k) → Maps.has D (kk k) = false
  size : Maps.size D = order.length
theorem mapIs_new : MapIs (.map []) [zl] [] := ⟨fun p hp => by simp at hp, fun k _ => rfl, rfl⟩
theorem MapIs.congr {D : DataW Unit} {ls ls' : List Lnk} {order : List Nat} (h : MapIs D ls order) (e : ∀ p ∈ order, (lk ls' p).val = (lk ls p).val) : MapIs D ls' order :=
  ⟨fun p hp => by rw [e p hp]; exact h.hit p hp, fun k hk => h.miss k (fun p hp => by rw [← e p hp]; exact hk p hp), h.size⟩
theorem MapIs.put {D : DataW Unit} {ls : List Lnk} {order : List Nat} (h : MapIs D ls order) (ht : Maps.Tidy D) {n : Nat} (hk : ∀ p ∈ order, (lk ls p).val.key ≠ (lk ls n).val.key) : MapIs (D.put (kk (lk ls n).val.key) (.lit (.int .i64 (n : Nat)))) ls (order ++ [n]) := by
  refine ⟨fun p hp => ?_, fun k hm => ?_, ?_⟩
  · rcases List.mem_append.1 hp with h1 | h1
    · have hne : kk (lk ls p).val.key ≠ kk (lk ls n).val.key := fun e => hk p h1 (kk_inj e)
      rw [Maps.has_put_other hne, Maps.atKey_put_other hne]
      exact h.hit p h1
    · simp at h1
      subst h1
      exact ⟨Maps.has_put_same ht.isMap (kk_key _) _, Maps.atKey_put_same ht.isMap (kk_key _) _ _⟩
  · have hne : kk k ≠ kk (lk ls n).val.key := fun e => hm n (by simp) (kk_inj e).symm
    rw [Maps.has_put_other hne]
    exact h.miss k (fun p hp => hm p (List.mem_append_left _ hp))
  · rw [Maps.size_put ht, h.miss _ hk, h.size]
    simp
theorem MapIs.del {D : DataW Unit} {ls : List Lnk} {l1 l2 : List Nat} {n : Nat} (h : MapIs D ls (l1 ++ n :: l2)) (ht : Maps.Tidy D) (hk : ∀ p ∈ l1 ++ l2, (lk ls p).val.key ≠ (lk ls n).val.key) : MapIs (D.del (kk (lk ls n).val.key)) ls (l1 ++ l2) := by
  have hsub : ∀ p, p ∈ l1 ++ l2 → p ∈ l1 ++ n :: l2 := fun p hp => by
    rcases List.mem_append.1 hp with h1 | h1
    · exact List.mem_append_left _ h1
    · exact List.mem_append_right _ (List.mem_cons_of_mem _ h1)
  refine ⟨fun p hp => ?_, fun k hm => ?_, ?_⟩
  · have hne : kk (lk ls p).val.key ≠ kk (lk ls n).val.key := fun e => hk p hp (kk_inj e)
    rw [Maps.has_del_other hne, Maps.atKey_del_other hne]
    exact h.hit p (hsub p hp)
  · by_cases e : k = (lk ls n).val.key
    · rw [e]; exact Maps.has_del_same
    · rw [Maps.has_del_other (fun e' => e (kk_inj e'))]
      refine h.miss k (fun p hp => ?_)
      rcases List.mem_append.1 hp with h1 | h1
      · exact hm p (List.mem_append_left _ h1)
      · rcases List.mem_cons.1 h1 with h2 | h2
        · rw [h2]; exact fun e' => e e'.symm
        · exact hm p (List.mem_append_right _ h2)
  · have h1 := Maps.size_del (k := kk (lk ls n).val.key) ht
    rw [(h.hit n (by simp)).1, h.size] at h1
    simp at h1 ⊢
    omega

/-- A shelf in memory: S are its blocks. -/
structure Parts (w : World) (hb : Nat) (S : List Nat) (lim nx lost : Int) (its : List Itm) (gl : Nat) (gf : Option Nat) (bm : Nat) (ls : List Lnk) (free order : List Nat) (cl : Nat) (vf : Value) (D : DataW Unit) : Prop where
  mem : Mem w hb ⟨lim, nx, total its, lost, .map (some bm)⟩ gl gf ls free cl vf
  good : Chain.Good ls free order
  items : itemsOf ls order = its
  len : ls.length ≤ 500
  own : w.ownsMap Tryd.prog 9 (plainElem Tryd.prog 3) bm its.length D
  map : MapIs D ls order
  m1 : bm ≠ hb
  m2 : bm ≠ gl
  m3 : gf ≠ some bm
  blocks : S = [hb, gl, bm] ++ gf.toList
  keys : (its.map Itm.key).Nodup
  small : ∀ x ∈ its, Small x
def Shelf (w : World) (hb : Nat) (S : List Nat) (lim nx lost : Int) (its : List Itm) : Prop := ∃ gl gf bm ls free order cl vf D, Parts w hb S lim nx lost its gl gf bm ls free order cl vf D

theorem Parts.lt {w : World} {hb : Nat} {S : List Nat} {lim nx lost : Int} {its : List Itm} {gl : Nat} {gf : Option Nat} {bm : Nat} {ls : List Lnk} {free order : List Nat} {cl : Nat} {vf : Value} {D : DataW Unit}
    (h : Parts w hb S lim nx lost its gl gf bm ls free order cl vf D) : ∀ b ∈ S, b < w.heap.size := by
  intro b hm
  rw [h.blocks] at hm
  simp only [List.mem_append, List.mem_cons, List.not_mem_nil, or_false, Option.mem_toList] at hm
  rcases hm with (rfl | rfl | rfl) | hg
  · exact h.mem.box.lt
  · exact Row.lt h.mem.links
  · exact h.own.lt
  · exact h.mem.gf_lt hg
theorem Parts.keep {w w' : World} {hb : Nat} {S T : List Nat} {lim nx lost : Int} {its : List Itm} {gl : Nat} {gf : Option Nat} {bm : Nat} {ls : List Lnk} {free order : List Nat} {cl : Nat} {vf : Value} {D : DataW Unit}
    (h : Parts w hb S lim nx lost its gl gf bm ls free order cl vf D) (hk : Keeps T w w') (hT : ∀ b ∈ S, b ∉ T) : Parts w' hb S lim nx lost its gl gf bm ls free order cl vf D := by
  have h1 : hb ∈ S := by rw [h.blocks]; simp
  have h2 : gl ∈ S := by rw [h.blocks]; simp
  have h3 : bm ∈ S := by rw [h.blocks]; simp
  have h4 : ∀ g, gf = some g → g ∈ S := fun g hg => by rw [h.blocks, hg]; simp
  exact { h with mem := h.mem.keep hk (hT _ h1) (hT _ h2) (fun g hg => hT _ (h4 g hg)), own := hk.map h.own (hT _ h3) }
theorem Shelf.lt {w : World} {hb : Nat} {S : List Nat} {lim nx lost : Int} {its : List Itm} (h : Shelf w hb S lim nx lost its) : ∀ b ∈ S, b < w.heap.size := by
  obtain ⟨gl, gf, bm, ls, free, order, cl, vf, D, hp⟩ := h
  exact hp.lt
theorem Shelf.keep {w w' : World} {hb : Nat} {S T : List Nat} {lim nx lost : Int} {its : List Itm} (h : Shelf w hb S lim nx lost its) (hk : Keeps T w w') (hT : ∀ b ∈ S, b ∉ T) : Shelf w' hb S lim nx lost its := by
  obtain ⟨gl, gf, bm, ls, free, order, cl, vf, D, hp⟩ := h
  exact ⟨gl, gf, bm, ls, free, order, cl, vf, D, hp.keep hk hT⟩
theorem Shelf.below {w w' : World} {hb : Nat} {S : List Nat} {lim nx lost : Int} {its : List Itm} (h : Shelf w hb S lim nx lost its) (hk : Below w.heap.size w w') : Shelf w' hb S lim nx lost its :=
  h.keep (Keeps.of_below (S := []) hk (fun _ h1 _ => h1)) (by simp)
/-- What a step on a shelf leaves: another shelf in the same blocks and new ones. -/
def Step (w w' : World) (hb : Nat) (S : List Nat) (lim nx lost : Int) (its : List Itm) : Prop := ∃ S', Shelf w' hb S' lim nx lost its ∧ (∀ b ∈ S', b ∈ S ∨ w.heap.size ≤ b) ∧ Keeps S w w'
end Shelf
end Go.Proofs.YthgcfklfpllgnaaDoor
