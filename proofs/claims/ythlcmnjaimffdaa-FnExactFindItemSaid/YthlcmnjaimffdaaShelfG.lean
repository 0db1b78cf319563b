/-
  The program's shelf: find; goodNow; what a good store gives.
-/
import Derived.Test.YthlcmnjaimffdaaShelfS
namespace Go.Proofs.Ythlcmnjaimffdaa
namespace Shelf
open Go.RowKit Base Items Keep Own Chain Store GoodKey
set_option linter.unusedVariables false

theorem kL_kk (x : Itm) : kL x = kk x.key := rfl
theorem good_keys {lim nx : Int} {its : List Itm} (h : gsB lim nx its = true) : its.length ≤ 60 ∧ (∀ x ∈ its, Small x) ∧ (its.map Itm.key).Nodup := by
  unfold gsB at h
  simp only [Bool.and_eq_true, decide_eq_true_eq] at h
  obtain ⟨⟨⟨_, h3⟩, h4⟩, _⟩ := h
  have hg := (goodTo_iff nx its its.length (Nat.le_refl _)).1 h4
  rw [List.take_length] at hg
  refine ⟨by omega, good_small h4, ?_⟩
  have h5 : (its.map kL) = (its.map Itm.key).map kk := by simp [kL_kk]
  have h6 := hg.2.1
  rw [h5] at h6
  exact (List.pairwise_map.1 h6).imp (fun hne e => hne (by rw [e]))

set_option maxRecDepth 10000 in
set_option maxHeartbeats 400000 in
theorem goodNow_any (n : Int) (w : World) : Calls Try.prog 34 #[.int .i64 n] w fun e w' => e = .returned (.bool (inB n 0 1000000000)) ∧ w' = w := by
  go_enter Try.func34, Try.ntmps34
  go_wp2
  all_goals
    go_ret
    refine ⟨ret_bool ?_, rfl⟩
    simp [inB]
    try omega

set_option maxRecDepth 10000 in
set_option maxHeartbeats 1000000 in
theorem find_none (w : World) (hb : Nat) (S : List Nat) (lim nx lost : Int) (its : List Itm) (key : ByteArray) (hs : Shelf w hb S lim nx lost its) (hkey : key.size ≤ maxLen) (hn : atN its key = none) :
    Calls Try.prog 41 #[.pointer (some ⟨hb, 0, none⟩), .string key] w fun e w' => e = .returned (findV none) ∧ Below w.heap.size w w' := by
  obtain ⟨gl, gf, bm, ls, free, order, cl, vf, D, hp⟩ := hs
  obtain ⟨c0, c1, c2, c3, c4, c5, c6⟩ := hp.mem.box.cells
  have hlt := hp.mem.box.lt
  have hrun := look_miss (hp.keep ((Keeps.refl [] w).alloc (.cells #[.string ⟨#[]⟩, .int .i64 0, .string ⟨#[]⟩, .int .i64 0, .int .i64 0] 40)) (by simp)) hkey hn
  clear c0 c1 c2 c3 c4 c5 hp hn hkey
  go_enter Try.func41, Try.ntmps41
  go_wp2
  refine bodyPost_ret (v := .tuple #[.agg #[.string ⟨#[]⟩, .int .i64 0, .string ⟨#[]⟩, .int .i64 0, .int .i64 0], .bool false]) (by simp [results, Try.results41, go_sem]; done) rfl ⟨rfl, ?_⟩
  exact bel1 w _

set_option maxRecDepth 10000 in
set_option maxHeartbeats 1000000 in
theorem find_hit (w : World) (hb : Nat) (S : List Nat) (lim nx lost : Int) (its : List Itm) (key : ByteArray) (k : Nat) (hs : Shelf w hb S lim nx lost its) (hkey : key.size ≤ maxLen) (hn : atN its key = some k) :
    Calls Try.prog 41 #[.pointer (some ⟨hb, 0, none⟩), .string key] w fun e w' => e = .returned (findV (some (its.getD k zero))) ∧ Below w.heap.size w w' := by
  obtain ⟨gl, gf, bm, ls, free, order, cl, vf, D, hp⟩ := hs
  have hp1 := hp.keep ((Keeps.refl [] w).alloc (.cells #[.string ⟨#[]⟩, .int .i64 0, .string ⟨#[]⟩, .int .i64 0, .int .i64 0] 40)) (by simp)
  obtain ⟨c0, c1, c2, c3, c4, c5, c6⟩ := hp.mem.box.cells
  have hlt := hp.mem.box.lt
  have hgt := Row.lt hp.mem.links
  obtain ⟨p, hrun, ho, hv⟩ := look_hit hp1 hkey hn
  have hpl : p < ls.length := (hp.good.inO p (by rw [ho]; simp)).2
  have hpi : (p : Int) < ls.length := by omega
  obtain ⟨i0, i1, i2, i3, i4⟩ := hp.mem.links.item hpl
  rw [hv] at i0 i1 i2 i3 i4
  generalize its.getD k zero = x at i0 i1 i2 i3 i4
  clear c0 c1 c2 c3 c5 hp hp1 hn hkey ho hv
  go_enter Try.func41, Try.ntmps41
  go_wp2
  refine bodyPost_ret (v := findV (some x)) (by simp [results, Try.results41, go_sem, findV, itemV]; done) rfl ⟨rfl, ?_⟩
  repeat (refine Below.setCell ?_ (by first | (simp; done) | (simp; omega)) _)
  exact bel1 w _

/-- What is found among the items that are not old. -/
theorem find_kept {lim nx : Int} {its : List Itm} {now : Int} {key : ByteArray} (h1 : gsB lim nx its = true) (h2 : inB now 0 1000000000 = true) :
    findB lim nx its now key = (atN (keepB its now) key).map (fun k => (keepB its now).getD k zero) := by
  have hk := (good_keys h1).2.2
  unfold findB
  rw [if_pos h1, if_pos h2]
  cases e : atN (keepB its now) key with
  | some k =>
    obtain ⟨hkl, hkk⟩ := at_split e
    have hmem : (keepB its now).getD k zero ∈ keepB its now := by
      rw [List.getD_eq_getElem?_getD, List.getElem?_eq_getElem hkl]; exact List.getElem_mem _
    simp only [Option.map_some]
    generalize (keepB its now).getD k zero = x at hkk hmem
    obtain ⟨hx, hxo⟩ := List.mem_filter.1 hmem
    obtain ⟨l1, l2, rfl⟩ := List.append_of_mem hx
    rw [← hkk, at_mid hk]
    simp only
    rw [get_mid, if_neg (by simpa using hxo)]
  | none =>
    have hno := at_none e
    cases e2 : atN its key with
    | none => rfl
    | some k =>
      obtain ⟨hkl, hkk⟩ := at_split e2
      have hmem : its.getD k zero ∈ its := by
        rw [List.getD_eq_getElem?_getD, List.getElem?_eq_getElem hkl]; exact List.getElem_mem _
      simp only [Option.map_none]
      cases ho : oldB (its.getD k zero) now
      · exact absurd hkk (hno _ (List.mem_filter.2 ⟨hmem, by rw [ho]; rfl⟩))
      · rfl
end Shelf
end Go.Proofs.Ythlcmnjaimffdaa
