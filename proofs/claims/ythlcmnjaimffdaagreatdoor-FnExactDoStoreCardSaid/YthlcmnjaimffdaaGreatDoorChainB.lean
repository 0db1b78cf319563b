/-
  The program's list of links: take, values, newChain.
-/
import Derived.Test.YthlcmnjaimffdaaGreatDoorChainA
import Derived.Test.YthlcmnjaimffdaaGreatDoorMarked
import Derived.Test.YthlcmnjaimffdaaGreatDoorRowed
namespace Go.Proofs.YthlcmnjaimffdaaGreatDoor
namespace Chain
open Go.RowKit Base Items Keep Own
set_option linter.unusedVariables false

theorem iinfo_ex : ∃ i : TypeInfo, Tryz.prog.info? 3 = some i ∧ i.zero = some (.int .i64 0) ∧ i.size = 1 ∧ i.bytes = 8 := by
  have h : (Tryz.prog.info? 3).map (fun i => (i.zero, i.size, i.bytes)) = some (some (.int .i64 0), 1, 8) := by kernel_rfl
  obtain ⟨i, hi, hz⟩ := Option.map_eq_some_iff.1 h
  simp only [Prod.mk.injEq] at hz
  exact ⟨i, hi, hz.1, hz.2.1, hz.2.2⟩

theorem lcell5 {w : World} {g : Nat} {t : TypeId} {v0 v1 v2 v3 v4 v5 v6 : Value} (h : w.heap[g]? = some (.cells #[v0, v1, v2, v3, v4, v5, v6] t (0, 0))) :
    w.cell? ⟨g, 0, none⟩ = some v0 ∧ w.cell? ⟨g, 1, none⟩ = some v1 ∧ w.cell? ⟨g, 2, none⟩ = some v2 ∧ w.cell? ⟨g, 3, none⟩ = some v3 ∧ w.cell? ⟨g, 4, none⟩ = some v4 ∧ w.cell? ⟨g, 5, none⟩ = some v5 ∧ w.cell? ⟨g, 6, none⟩ = some v6 := by
  refine ⟨?_, ?_, ?_, ?_, ?_, ?_, ?_⟩ <;> simp [World.cell?, h]

theorem lcell4 {w : World} {g : Nat} {t : TypeId} {v0 v1 v2 v3 v4 : Value} (h : w.heap[g]? = some (.cells #[v0, v1, v2, v3, v4] t (0, 0))) :
    w.cell? ⟨g, 0, none⟩ = some v0 ∧ w.cell? ⟨g, 1, none⟩ = some v1 ∧ w.cell? ⟨g, 2, none⟩ = some v2 ∧ w.cell? ⟨g, 3, none⟩ = some v3 ∧ w.cell? ⟨g, 4, none⟩ = some v4 := by
  refine ⟨?_, ?_, ?_, ?_, ?_⟩ <;> simp [World.cell?, h]

set_option maxRecDepth 10000 in
set_option maxHeartbeats 2000000 in
theorem take_any (w : World) (hb : Nat) (h : Hd) (gl : Nat) (gf : Option Nat) (ls : List Lnk) (free l1 l2 : List Nat) (n : Nat) (cl : Nat) (vf : Value) (hm : Mem w hb h gl gf ls free cl vf) (hG : Good ls free (l1 ++ n :: l2)) (hlen : ls.length ≤ 1000) :
    Calls Tryz.prog 71 #[.pointer (some ⟨hb, 4, none⟩), .int .i64 n] w fun e w' => ∃ gf' vf', e = .returned (.agg #[.string (lk ls n).val.key, .int .i64 (lk ls n).val.flags, .string (lk ls n).val.data, .int .i64 (lk ls n).val.upto, .int .i64 (lk ls n).val.token]) ∧
      Mem w' hb h gl gf' (takeL ls n) (free ++ [n]) cl vf' ∧ (gf' = gf ∨ ∃ g, gf' = some g ∧ w.heap.size ≤ g) ∧ Keeps ([hb, gl] ++ gf.toList) w w' := by
  obtain ⟨ha, hbd, ea, eb⟩ := mid_lt hG
  have hn := hG.inO n (by simp)
  have hln := hG.len
  obtain ⟨c0, c1, c2, c3, c4, c5, c6⟩ := hm.box.cells
  obtain ⟨i0, i1, i2, i3, i4⟩ := hm.links.item hn.2
  have i5 := hm.links.ahead hn.2
  have i6 := hm.links.behind hn.2
  have j6 := hm.links.behind ha
  have fz := fun j => Row.frozen hm.links j
  have hlt := hm.box.lt
  have hgt := Row.lt hm.links
  have hne := hm.n1
  have HM := hide hm
  have HG := hide hG
  generalize hx : (lk ls n).val = x at i0 i1 i2 i3 i4
  generalize ea' : (lk ls n).ahead = a at i5 ha j6
  generalize eb' : (lk ls n).behind = b at i6 hbd
  have hn' : (n : Int) < ls.length := by omega
  have ha' : (a : Int) < ls.length := by omega
  have hb' : (b : Int) < ls.length := by omega
  clear hm hG c0 c1 c2 c3 c5 c6 hln
  go_enter Tryz.func71, Tryz.ntmps71
  go_wp2_with (at_builtin; fail)
  have HM1 := hide ((unhide HM).keep (((Keeps.refl [] w).alloc (.cells #[.string ⟨#[]⟩, .int .i64 0, .string ⟨#[]⟩, .int .i64 0, .int .i64 0] 71)).alloc (.cells #[.string x.key, .int .i64 x.flags, .string x.data, .int .i64 x.upto, .int .i64 x.token, .int .i64 a, .int .i64 b] 105)) (by simp) (by simp) (by simp))
  have HK1 := hide (((Keeps.refl ([hb, gl] ++ gf.toList) w).alloc (.cells #[.string ⟨#[]⟩, .int .i64 0, .string ⟨#[]⟩, .int .i64 0, .int .i64 0] 71)).alloc (.cells #[.string x.key, .int .i64 x.flags, .string x.data, .int .i64 x.upto, .int .i64 x.token, .int .i64 a, .int .i64 b] 105))
  have l5 : ((w.alloc (.cells #[.string ⟨#[]⟩, .int .i64 0, .string ⟨#[]⟩, .int .i64 0, .int .i64 0] 71)).alloc (.cells #[.string x.key, .int .i64 x.flags, .string x.data, .int .i64 x.upto, .int .i64 x.token, .int .i64 a, .int .i64 b] 105)).heap[w.heap.size + 1]? = some (.cells #[.string x.key, .int .i64 x.flags, .string x.data, .int .i64 x.upto, .int .i64 x.token, .int .i64 a, .int .i64 b] 105 (0, 0)) := by
    have := heap_alloc_new (w.alloc (.cells #[.string ⟨#[]⟩, .int .i64 0, .string ⟨#[]⟩, .int .i64 0, .int .i64 0] 71)) (.cells #[.string x.key, .int .i64 x.flags, .string x.data, .int .i64 x.upto, .int .i64 x.token, .int .i64 a, .int .i64 b] 105)
    rwa [World.size_alloc] at this
  have r5 : ((w.alloc (.cells #[.string ⟨#[]⟩, .int .i64 0, .string ⟨#[]⟩, .int .i64 0, .int .i64 0] 71)).alloc (.cells #[.string x.key, .int .i64 x.flags, .string x.data, .int .i64 x.upto, .int .i64 x.token, .int .i64 a, .int .i64 b] 105)).heap[w.heap.size]? = some (.cells #[.string ⟨#[]⟩, .int .i64 0, .string ⟨#[]⟩, .int .i64 0, .int .i64 0] 71 (0, 0)) := by
    rw [Below.heap_alloc _ _ _ (by simp)]
    exact heap_alloc_new _ _
  generalize ((w.alloc (.cells #[.string ⟨#[]⟩, .int .i64 0, .string ⟨#[]⟩, .int .i64 0, .int .i64 0] 71)).alloc (.cells #[.string x.key, .int .i64 x.flags, .string x.data, .int .i64 x.upto, .int .i64 x.token, .int .i64 a, .int .i64 b] 105)) = w1 at HM1 HK1 l5 r5 ⊢
  clear c4 i0 i1 i2 i3 i4 i5 i6 j6 fz
  obtain ⟨c0, c1, c2, c3, c4, c5, c6⟩ := (unhide HM1).box.cells
  clear c0 c1 c2 c3 c5 c6
  have j6 := (unhide HM1).links.behind ha
  have fz := fun j => Row.frozen (unhide HM1).links j
  have q5 := lcell5 l5
  go_region
  have O2 := ((One.refl w1 gl).set (a * 7 + 6) (.int .i64 (b : Int))).drew
  have L2 := ((unhide HM1).links.setBehind ha b).drew
  generalize ((w1.setCell ⟨gl, a * 7 + 6, none⟩ (.int .i64 b)).drew) = w2 at O2 L2 ⊢
  have HM2 := hide ((unhide HM1).step O2.block L2 (by simp))
  have HK2 : Hid (Keeps ([hb, gl] ++ gf.toList) w w2) := O2.keeps (unhide HK1) (.inl (by simp))
  have l5' := (O2.block (w.heap.size + 1) (by omega)).trans l5
  have r5' := (O2.block w.heap.size (by omega)).trans r5
  clear O2 L2 l5 r5 q5 fz j6 c4 HM1 HK1
  obtain ⟨c0, c1, c2, c3, c4, c5, c6⟩ := (unhide HM2).box.cells
  have hl2 : (ls.set a { lk ls a with behind := b }).length = ls.length := by simp
  rw [hl2] at c4
  have j5 := (unhide HM2).links.ahead (p := b) (by omega)
  have fz := fun j => Row.frozen (unhide HM2).links j
  have q5 := lcell5 l5'
  clear c0 c1 c2 c3 c5 c6
  go_wp2
  go_region
  have O3 := ((One.refl w2 gl).set (b * 7 + 5) (.int .i64 (a : Int))).drew
  have L3 := ((unhide HM2).links.setAhead (p := b) (by omega) a).drew
  generalize ((w2.setCell ⟨gl, b * 7 + 5, none⟩ (.int .i64 a)).drew) = w3 at O3 L3 ⊢
  have etake : (ls.set a { lk ls a with behind := b }).set b { lk (ls.set a { lk ls a with behind := b }) b with ahead := a } = takeL ls n := by
    unfold takeL
    simp only [ea', eb']
  rw [etake] at L3
  have HM3 := hide ((unhide HM2).step O3.block L3 (by rw [takeL_len, hl2]))
  have HK3 : Hid (Keeps ([hb, gl] ++ gf.toList) w w3) := O3.keeps (unhide HK2) (.inl (by simp))
  have l6 := (O3.block (w.heap.size + 1) (by omega)).trans l5'
  have r6 := (O3.block w.heap.size (by omega)).trans r5'
  clear O3 L3 l5' r5' q5 fz j5 c4 HM2 HK2 etake
  obtain ⟨c0, c1, c2, c3, c4, c5, c6⟩ := (unhide HM3).box.cells
  have f5 := (unhide HM3).box.frozen 5
  clear c0 c1 c2 c3 c4 c6
  obtain ⟨i0, hi, hz0, hz1, hz2⟩ := iinfo_ex
  have HI := hide hi
  have HZ0 := hide hz0
  have HZ1 := hide hz1
  have HZ2 := hide hz2
  have hfl : free.length ≤ 1000 := by have := (unhide HG).len; simp at this; omega
  clear hi hz0 hz1 hz2
  go_wp2_with (at_builtin; go_loud (refine wpList_append_own_at _ rfl _ _ 58 rfl 0 3 i0 _ 1 8 Tryz.underlying58 (unhide HI) (unhide HZ0) (unhide HZ1) (unhide HZ2) rfl (by decide) _ _ _ rfl ((unhide HM3).fr.alloc _) ⟨w3.heap.size, 0, none⟩ 1 1 [.int .i64 n] rfl rfl (cell_one_new _ _ _) (ints_oneCell .i64 [(n : Int)]) (by unfold maxLen; omega) (by omega) (Nat.zero_le _) ?_))
  intro v' w4 hown' hgrow _ hloc
  obtain ⟨va, vc, hv'⟩ := own_form hown'
  have hm3 := unhide HM3
  have hz3 : w.heap.size + 1 < w3.heap.size := (Array.getElem?_eq_some_iff.1 l6).1
  have hgf : ∀ k, k < w3.heap.size → vf.ownBlock ≠ some k → w4.heap[k]? = w3.heap[k]? := fun k hk hn =>
    (hgrow.block k (by simp; omega) (fun e => hn e.symm)).trans (Below.heap_alloc _ _ _ hk)
  have hgn : ∀ g, vf.ownBlock = some g → g < w.heap.size := fun g hg => (unhide HM).gf_lt (hm3.own.symm.trans hg)
  have hbx := hm3.box.of_block (hgf hb hm3.box.lt (fun e => hm3.n2 (hm3.own.symm.trans e)))
  have l7 := (hgf (w.heap.size + 1) hz3 (fun e => by have := hgn _ e; omega)).trans l6
  have r7 := (hgf w.heap.size (by omega) (fun e => by have := hgn _ e; omega)).trans r6
  have HL4 := hide (Row.of_block hm3.links (hgf gl (Row.lt hm3.links) (fun e => hm3.n3 (hm3.own.symm.trans e))))
  have HK4 : Hid (Keeps ([hb, gl] ++ gf.toList) w w4) := ((unhide HK3).alloc _).grown hgrow (fun k e => .inl (by
    have := hm3.own.symm.trans e
    simp [this]))
  obtain ⟨c0, c1, c2, c3, c4, c5', c6⟩ := hbx.cells
  have f5' := hbx.frozen 5
  have q7 := lcell5 l7
  have fr7 : ∀ o, w4.frozen? ⟨w.heap.size, o, none⟩ = false := fun o => by simp [World.frozen?, r7]
  obtain ⟨s0, s1, s2, s3, s4⟩ := lcell4 r7
  have hz4 : w.heap.size + 1 < w4.heap.size := (Array.getElem?_eq_some_iff.1 l7).1
  have HB4 := hide hbx
  have HO4 := hide hown'
  have HLoc := hide hloc
  have R7 := hide r7
  subst hv'
  clear c0 c1 c2 c3 c4 c6 hbx hown' hgrow hloc hgf l6 r6 l7 r7 c5 f5 hm3
  go_wp2
  refine bodyPost_ret (v := .agg #[.string x.key, .int .i64 x.flags, .string x.data, .int .i64 x.upto, .int .i64 x.token]) (by simp [results, Tryz.results71, go_sem, s0, s1, s2, s3, s4]) rfl ?_
  have hm := unhide HM
  have O8 := (((((One.refl (w4.setCell ⟨hb, 5, none⟩ (.slice va (free.length + 1) vc)) w.heap.size).set 0 (.string x.key)).set 1 (.int .i64 x.flags)).set 2 (.string x.data)).set 3 (.int .i64 x.upto)).set 4 (.int .i64 x.token)
  generalize ((((((w4.setCell ⟨hb, 5, none⟩ (.slice va (free.length + 1) vc)).setCell ⟨w.heap.size, 0, none⟩ (.string x.key)).setCell ⟨w.heap.size, 1, none⟩ (.int .i64 x.flags)).setCell ⟨w.heap.size, 2, none⟩ (.string x.data)).setCell ⟨w.heap.size, 3, none⟩ (.int .i64 x.upto)).setCell ⟨w.heap.size, 4, none⟩ (.int .i64 x.token)) = w8 at O8 ⊢
  have hbk : ∀ k, k ≠ hb → k ≠ w.heap.size → w8.heap[k]? = w4.heap[k]? := fun k h1 h2 => (O8.block k h2).trans (Below.heap_setCell _ _ _ _ h1)
  have hloc2 : ∀ g, (Value.slice va (free.length + 1) vc).ownBlock = some g → vf.ownBlock = some g ∨ w.heap.size + 1 < g := by
    intro g hg
    rcases unhide HLoc with e | e
    · exact .inl (e.symm.trans hg)
    · rw [hg] at e
      simp at e
      exact .inr (by omega)
  refine ⟨(Value.slice va (free.length + 1) vc).ownBlock, .slice va (free.length + 1) vc, rfl, ⟨?_, ?_, ?_, rfl, hm.n1, ?_, ?_⟩, ?_, ?_⟩
  · exact ((unhide HB4).set5 _).of_block (O8.block hb (by omega))
  · exact Row.of_block (unhide HL4) (hbk gl (Ne.symm hm.n1) (by omega))
  · have e1 : ints (free ++ [n]) = ints free ++ [.int .i64 (n : Int)] := by simp [ints]
    rw [e1, List.length_append]
    exact own_blocks (unhide HO4) (fun g hg => hbk g
      (fun e => by
        rcases hloc2 g hg with h1 | h1
        · have := hgn g h1; exact (unhide HM3).n2 ((unhide HM3).own.symm.trans (h1.trans (by rw [e])))
        · omega)
      (fun e => by
        rcases hloc2 g hg with h1 | h1
        · have := hgn g h1; omega
        · omega))
  · intro e
    rcases hloc2 hb e with h1 | h1
    · exact (unhide HM3).n2 ((unhide HM3).own.symm.trans h1)
    · omega
  · intro e
    rcases hloc2 gl e with h1 | h1
    · exact (unhide HM3).n3 ((unhide HM3).own.symm.trans h1)
    · omega
  · rcases unhide HLoc with e | e
    · exact .inl (e.trans (unhide HM3).own)
    · exact .inr ⟨_, e, by omega⟩
  · exact O8.keeps ((unhide HK4).setCell (.inl (by simp)) _) (.inr (Nat.le_refl _))
end Chain
end Go.Proofs.YthlcmnjaimffdaaGreatDoor
/-
  The program's list of links: values, newChain.
-/
namespace Go.Proofs.YthlcmnjaimffdaaGreatDoor
namespace Chain
open Go.RowKit Base Items Keep Own
set_option linter.unusedVariables false

def lenOf : Value → Nat | .slice _ n _ => n | _ => 0
theorem fw_at {f : Nat → Nat} {a : Nat} {l : List Nat} (h : Fw f a l) {k : Nat} (hk : k < l.length) : f (l.getD k 0) = (l.drop (k + 1)).headD 0 := by
  have e : l = l.take k ++ l[k] :: l.drop (k + 1) := by rw [← List.drop_eq_getElem_cons hk, List.take_append_drop]
  rw [e] at h
  have h1 := h.mid.head
  rw [List.getD_eq_getElem?_getD, List.getElem?_eq_getElem hk]
  exact h1
theorem items_step (ls : List Lnk) (order : List Nat) {k : Nat} (hk : k < order.length) : (itemsOf ls order).take (k + 1) = (itemsOf ls order).take k ++ [(lk ls (order.getD k 0)).val] := by
  have hk' : k < (itemsOf ls order).length := by simpa [itemsOf] using hk
  rw [List.take_succ_eq_append_getElem hk']
  simp [itemsOf, List.getD_eq_getElem?_getD, List.getElem?_eq_getElem hk]
theorem items_len (ls : List Lnk) (order : List Nat) : (itemsOf ls order).length = order.length := by simp [itemsOf]

set_option maxRecDepth 10000 in
set_option maxHeartbeats 2000000 in
theorem values_any (w : World) (hb : Nat) (h : Hd) (gl : Nat) (gf : Option Nat) (ls : List Lnk) (free order : List Nat) (cl : Nat) (vf : Value) (hm : Mem w hb h gl gf ls free cl vf) (hG : Good ls free order) (hlen : ls.length ≤ 1000) :
    Calls Tryz.prog 54 #[.pointer (some ⟨hb, 4, none⟩)] w fun e w' => ∃ a cap, e = .returned (.slice a order.length cap) ∧ w'.ownsRow w.heap.size 71 5 (.slice a order.length cap) order.length (flat (itemsOf ls order)) ∧ Below w.heap.size w w' := by
  have hol : order.length ≤ 1000 := by have := hG.len; omega
  have hpos : 0 < ls.length := by have := hG.len; omega
  obtain ⟨c0, c1, c2, c3, c4, c5, c6⟩ := hm.box.cells
  have i6 : w.cell? ⟨gl, 6, none⟩ = some (.int .i64 (lk ls 0).behind) := by
    have := hm.links.behind (p := 0) hpos
    rwa [Nat.zero_mul, Nat.zero_add] at this
  have e0 : (lk ls 0).behind = order.headD 0 := hG.fw.head
  rw [e0] at i6
  have HF : Hid (∀ k, k < order.length → (lk ls (order.getD k 0)).behind = (order.drop (k + 1)).headD 0) := fun k hk => fw_at hG.fw hk
  have HI : Hid (∀ k, k < order.length → 0 < order.getD k 0 ∧ order.getD k 0 < ls.length) := fun k hk => by
    rw [List.getD_eq_getElem?_getD, List.getElem?_eq_getElem hk]
    exact hG.inO _ (List.getElem_mem _)
  have HM := hide hm
  clear hm hG c0 c1 c2 c3 c5 c6 e0
  obtain ⟨i0, hi, hz0, hz1, hz2⟩ := Store.info_ex
  have HI0 := hide hi
  have HZ0 := hide hz0
  have HZ1 := hide hz1
  have HZ2 := hide hz2
  clear hi hz0 hz1 hz2
  go_enter Tryz.func54, Tryz.ntmps54
  go_wp2
  go_loopw [3, 4] (fun v at_ wr => ∃ (k p : Nat), k ≤ order.length ∧ at_ = .int .i64 (p : Nat) ∧ Hid (p = (order.drop k).headD 0) ∧ Hid (wr.ownsRow w.heap.size 71 5 v k (flat ((itemsOf ls order).take k))) ∧ Hid (Below w.heap.size w wr)) (fun v _ _ => order.length - lenOf v)
  case atStart => exact ⟨0, _, Nat.zero_le _, rfl, hide (by cases order <;> rfl), hide (World.ownsRow_nil _ _ _ _), hide (Below.refl _ _)⟩
  case round =>
    obtain ⟨k, p, hk, rfl, hp, hown, hbel⟩ := hrel
    have HMr := hide ((unhide HM).keep (Keeps.of_below (S := []) (unhide hbel) (fun _ h1 _ => h1)) (by simp) (by simp) (by simp))
    obtain ⟨va, vc, hv⟩ := own_form (unhide hown)
    subst hv
    by_cases hlt : k < order.length
    · have hp1 : Hid (p = order.getD k 0) := by
        show p = _
        rw [unhide hp, List.drop_eq_getElem_cons hlt, List.getD_eq_getElem?_getD, List.getElem?_eq_getElem hlt]
        rfl
      have hpos' := unhide HI k hlt
      rw [← unhide hp1] at hpos'
      have hst := hide (items_step ls order hlt)
      have hnx := hide (unhide HF k hlt)
      rw [← unhide hp1] at hst hnx
      have hil := hide (items_len ls order)
      obtain ⟨hp0, hpl⟩ := hpos'
      have hpi : (p : Int) < ls.length := by omega
      have hp0' : ¬ (p : Int) = 0 := by omega
      obtain ⟨c0, c1, c2, c3, d4, c5, c6⟩ := (unhide HMr).box.cells
      obtain ⟨i0', i1, i2, i3, i4⟩ := (unhide HMr).links.item hpl
      have j6 := (unhide HMr).links.behind hpl
      clear c0 c1 c2 c3 c5 c6 hp1 hp
      have hltr := (unhide HMr).box.lt
      have hgtr := Row.lt (unhide HMr).links
      generalize (lk ls p).val = x at i0' i1 i2 i3 i4 hst
      rw [unhide hnx] at j6
      go_wp2_with (at_builtin; go_loud (refine wpList_append_own _ rfl _ _ 30 rfl w.heap.size 71 i0 _ 5 56 Tryz.underlying30 (unhide HI0) (unhide HZ0) (unhide HZ1) (unhide HZ2) rfl (by decide) _ _ _ rfl ((unhide hown).alloc _) ⟨wr.heap.size, 0, none⟩ 1 1 (cellsOf x) rfl rfl (news_cells wr x _) (news_one x) (by unfold maxLen; omega) (by omega) (by have := (unhide hbel).size; simp; omega) ?_))
      intro v' w2 hown' hgrow _
      have B2 := hide ((((unhide hbel).alloc (unhide hbel).size _).grown hgrow (by have := (unhide hbel).size; simp; omega) (fun j e => own_block (unhide hown) j e)))
      have O2 : Hid (w2.ownsRow w.heap.size 71 5 v' (k + 1) (flat ((itemsOf ls order).take (k + 1)))) := by
        show w2.ownsRow _ _ _ _ _ _
        rw [unhide hst, flat_append, flat_one]
        exact hown'
      clear hown' hgrow d4 i0' i1 i2 i3 i4 j6
      have HM2 := hide ((unhide HM).keep (Keeps.of_below (S := []) (unhide B2) (fun _ h1 _ => h1)) (by simp) (by simp) (by simp))
      obtain ⟨c0, c1, c2, c3, d4, c5, c6⟩ := (unhide HM2).box.cells
      have j6 := (unhide HM2).links.behind hpl
      rw [unhide hnx] at j6
      obtain ⟨va', vc', hv'⟩ := own_form (unhide O2)
      subst hv'
      clear c0 c1 c2 c3 c5 c6 HM2 HMr hnx
      generalize hq : (order.drop (k + 1)).headD 0 = q at j6
      go_wp2
      go_roundw
      case rel => exact ⟨k + 1, q, by omega, rfl, hide hq.symm, O2, B2⟩
      case measure => simp [lenOf]; omega
    · have hk' : k = order.length := by omega
      subst hk'
      have hp0 : p = 0 := by
        have := unhide hp
        rw [List.drop_eq_nil_of_le (Nat.le_refl _)] at this
        exact this
      subst hp0
      have et : (itemsOf ls order).take order.length = itemsOf ls order := List.take_of_length_le (by simp [itemsOf])
      rw [et] at hown
      go_wp2
      go_ret
      exact ⟨va, vc, rfl, unhide hown, unhide hbel⟩
end Chain
end Go.Proofs.YthlcmnjaimffdaaGreatDoor
