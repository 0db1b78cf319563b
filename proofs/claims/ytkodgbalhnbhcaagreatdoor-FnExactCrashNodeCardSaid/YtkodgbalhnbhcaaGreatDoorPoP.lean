/-
  The places where a key stands and is not old, as plain functions. No Go function is spoken of here.
-/
import Derived.Test.YtkodgbalhnbhcaaGreatDoorZ18
import Derived.Test.YtkodgbalhnbhcaaGreatDoorZ7
namespace Go.Proofs.YtkodgbalhnbhcaaGreatDoor
namespace Clus
open Go.RowKit Base GoodKey Items Store Plc
set_option linter.unusedVariables false

def standB (now : Int) (key : ByteArray) (x : Itm) : Bool := hasKey key x && !oldB x now
/-- By the first item with that key. -/
def modB (now : Int) (key : ByteArray) (its : List Itm) : Bool := match atN its key with | some k => !oldB (its.getD k zero) now | none => false
theorem mod_eq {lim nx : Int} {its : List Itm} (h : gsB lim nx its = true) (now : Int) (key : ByteArray) : modB now key its = its.any (standB now key) := by
  have hnd := (gs_nodup h).1
  unfold modB
  cases e : atN its key with
  | none =>
    unfold atN at e
    rw [List.findIdx?_eq_none_iff] at e
    symm
    rw [List.any_eq_false]
    intro x hx
    simp [standB, e x hx]
  | some k =>
    unfold atN at e
    obtain ⟨hk, h1, _⟩ := List.findIdx?_eq_some_iff_getElem.1 e
    have eg : its.getD k zero = its[k] := by simp [hk]
    show (!oldB (its.getD k zero) now) = _
    rw [eg]
    have same : ∀ x ∈ its, hasKey key x = true → x = its[k] := by
      intro x hx hh
      obtain ⟨j, hj, rfl⟩ := List.getElem_of_mem hx
      by_cases ejk : j = k
      · subst ejk; rfl
      · exfalso
        have hkk : kL its[j] = kL its[k] := by
          unfold hasKey at hh h1
          rw [Lib.toList_data, Lib.toList_data, beq_iff_eq] at hh h1
          unfold kL
          rw [hh, h1]
        have hp := List.pairwise_iff_getElem.1 hnd
        rcases Nat.lt_or_gt_of_ne ejk with hl | hl
        · exact hp j k (by simpa using hj) (by simpa using hk) hl (by simpa using hkk)
        · exact hp k j (by simpa using hk) (by simpa using hj) hl (by simpa using hkk.symm)
    cases ho : oldB its[k] now
    · symm
      rw [Bool.not_false, List.any_eq_true]
      exact ⟨its[k], List.getElem_mem hk, by simp [standB, h1, ho]⟩
    · symm
      rw [Bool.not_true, List.any_eq_false]
      intro x hx
      cases hh : hasKey key x
      · simp [standB, hh]
      · rw [same x hx hh]; simp [standB, ho]
def stayB (now : Int) (key : ByteArray) (p : Pls.Pl) : Bool := p.its.any (standB now key)
/-- The names of the first k places that have it. -/
def poN (L : List Pls.Pl) (now : Int) (key : ByteArray) (k : Nat) : List ByteArray := ((L.take k).filter (stayB now key)).map (·.name)
theorem poN_succ {L : List Pls.Pl} {now : Int} {key : ByteArray} {k : Nat} (hk : k < L.length) : poN L now key (k + 1) = if stayB now key (L.getD k Pls.zeroL) then poN L now key k ++ [(L.getD k Pls.zeroL).name] else poN L now key k := by
  unfold poN
  rw [List.take_succ_eq_append_getElem hk, List.filter_append, List.map_append]
  have e : L.getD k Pls.zeroL = L[k] := by simp [hk]
  rw [e]
  cases h : stayB now key L[k] <;> simp [h]
theorem poN_len (L : List Pls.Pl) (now : Int) (key : ByteArray) (k : Nat) : (poN L now key k).length ≤ k := by
  unfold poN
  rw [List.length_map]
  exact Nat.le_trans (List.length_filter_le _ _) (by simp; omega)
/-- What PlacesOf tells. -/
def poR (C : CC) (key : ByteArray) : List ByteArray × Bool := if gcB C && gk key.data.toList then ((C.ps.filter (fun p => p.its.any (standB C.now key))).map (·.name), true) else ([], false)
theorem poR_no {C : CC} {key : ByteArray} (h : gcB C = false ∨ gk key.data.toList = false) : poR C key = ([], false) := by
  unfold poR
  rcases h with h | h <;> simp [h]
theorem poR_yes {C : CC} {L : List Pls.Pl} {key : ByteArray} (hL : C.ps = L.map Pls.core) (h1 : gcB C = true) (h2 : gk key.data.toList = true) : poR C key = (poN L C.now key L.length, true) := by
  unfold poR poN
  rw [h1, h2, hL, List.take_length, List.filter_map]
  simp only [Bool.and_self, if_true, List.map_map]
  rfl
theorem names_size {C : CC} (h1 : NodesM.gnB C.ns = true) (h2 : C.cs = [] ∨ NodesM.gnB C.cs = true) {k : Nat} (hk : k < (names C).length) : ((names C).getD k ByteArray.empty).size ≤ 8 := by
  have hm : (names C).getD k ByteArray.empty ∈ names C := by rw [List.getD_eq_getElem?_getD, List.getElem?_eq_getElem hk]; simp
  have key : ∀ l : List Nodes.D, NodesM.gnB l = true → ∀ x ∈ l, x.name.size ≤ 8 := fun l hl x hx => by
    obtain ⟨i, hi, rfl⟩ := List.getElem_of_mem hx
    have := (Ring.node_bd (Ring.good_at hl hi)).1
    rw [List.getD_eq_getElem?_getD, List.getElem?_eq_getElem hi] at this
    exact this
  rcases List.mem_append.1 ((insAll_mem _ _).1 hm) with h | h
  · obtain ⟨x, hx, e⟩ := List.mem_map.1 h
    rw [← e]; exact key _ h1 x hx
  · obtain ⟨x, hx, e⟩ := List.mem_map.1 h
    rw [← e]
    rcases h2 with h2 | h2
    · rw [h2] at hx; simp at hx
    · exact key _ h2 x hx
theorem gc_stores {C : CC} {L : List Pls.Pl} (hL : C.ps = L.map Pls.core) (h : gcB C = true) : L.length ≤ 16 ∧ ∀ k, k < L.length → gsB (L.getD k Pls.zeroL).lim (L.getD k Pls.zeroL).nx (L.getD k Pls.zeroL).its = true ∧ (L.getD k Pls.zeroL).name.size ≤ 8 := by
  rw [gc_eq, Bool.and_eq_true, Bool.and_eq_true] at h
  obtain ⟨⟨hh, hp⟩, _⟩ := h
  obtain ⟨_, _, _, _, g5, g6⟩ := (head_iff C).1 hh
  have hn := Ring.good_len g5
  have hc8 : C.cs.length ≤ 8 := by
    rcases g6 with e | e
    · rw [e]; simp
    · exact (Ring.good_len e).2
  unfold placesB at hp
  rw [Bool.and_eq_true, decide_eq_true_eq, List.all_eq_true] at hp
  have hlen : C.ps.length = L.length := by rw [hL]; simp
  have h1 := insAll_len (C.ns.map (·.name) ++ C.cs.map (·.name))
  rw [List.length_append, List.length_map, List.length_map] at h1
  have h2 : (names C).length = L.length := hp.1.trans hlen
  have h3 : (names C).length ≤ C.ns.length + C.cs.length := h1
  refine ⟨by omega, fun k hk => ?_⟩
  have hpl := (pl_iff hL).1 (hp.2 k (by simpa [hlen] using hk))
  exact ⟨hpl.2.1, by rw [hpl.1]; exact names_size g5 g6 (by omega)⟩
end Clus
end Go.Proofs.YtkodgbalhnbhcaaGreatDoor
