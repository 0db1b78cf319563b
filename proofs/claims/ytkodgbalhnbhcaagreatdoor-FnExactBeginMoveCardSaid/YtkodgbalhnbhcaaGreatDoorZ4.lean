/-
  The same slice, as marks and looks ask for it. No Go function is spoken of here.
-/
import Derived.Test.YtkodgbalhnbhcaaGreatDoorZ3
import Derived.Test.YtkodgbalhnbhcaaGreatDoorZ2
import Derived.Test.YtkodgbalhnbhcaaGreatDoorRows
import Derived.Test.YtkodgbalhnbhcaaGreatDoorZ1
namespace Go.Proofs.YtkodgbalhnbhcaaGreatDoor
namespace Own
open Go.RowKit Base Items Marks

theorem own_ours {w : World} {base : Nat} {a : Option Addr} {cap : Nat} {its : List Itm} (h : w.ownsRow base 85 5 (.slice a its.length cap) its.length (flat its)) :
    ∃ r, Ours w a its.length (icell its) r ∧ ∀ g, r = some g → base ≤ g := by
  rcases h.2 with ⟨_, h0⟩ | ⟨g, cap', cur, hv, hg, hh, hn, _, hsz, ht⟩
  · exact ⟨none, .inl ⟨h0, rfl⟩, fun g e => by simp at e⟩
  · simp only [Value.slice.injEq] at hv
    refine ⟨some g, .inr ⟨g, hv.1, rfl, cur, hh, by rw [hsz]; omega, fun i hi => ?_⟩, fun g' e => by simp at e; omega⟩
    rw [← flat_get its i hi, ← ht, List.getElem?_take_of_lt hi]
    simp
end Own
end Go.Proofs.YtkodgbalhnbhcaaGreatDoor
/-
  The program's list of links: take, values, newChain.
-/
namespace Go.Proofs.YtkodgbalhnbhcaaGreatDoor
namespace Chain
open Go.RowKit Base Items Keep Own
set_option linter.unusedVariables false

theorem iinfo_ex : ∃ i : TypeInfo, Tryz.prog.info? 3 = some i ∧ i.zero = some (.int .i64 0) ∧ i.size = 1 ∧ i.bytes = 8 := by
  have h : (Tryz.prog.info? 3).map (fun i => (i.zero, i.size, i.bytes)) = some (some (.int .i64 0), 1, 8) := by kernel_rfl
  obtain ⟨i, hi, hz⟩ := Option.map_eq_some_iff.1 h
  simp only [Prod.mk.injEq] at hz
  exact ⟨i, hi, hz.1, hz.2.1, hz.2.2⟩

theorem lcell5 {w : World} {g : Nat} {t : TypeId} {v0 v1 v2 v3 v4 v5 v6 : Value} (h : w.heap[g]? = some (.cells #[v0, v1, v2, v3, v4, v5, v6] t (0, 0))) :
    w.cell? ⟨g, 0, none⟩ = some v0 ∧ w.cell? ⟨g, 1, none⟩ = some v1 ∧ w.cell? ⟨g, 2, none⟩ = some v2 ∧ w.cell? ⟨g, 3, none⟩ = some v3 ∧ w.cell? ⟨g, 4, none⟩ = some v4 ∧ w.cell? ⟨g, 5, none⟩ = some v5 ∧ w.cell? ⟨g, 6, none⟩ = some v6 := by
  refine ⟨?_, ?_, ?_, ?_, ?_, ?_, ?_⟩ <;> simp [World.cell?, h]

theorem lcell4 {w : World} {g : Nat} {t : TypeId} {v0 v1 v2 v3 v4 : Value} (h : w.heap[g]? = some (.cells #[v0, v1, v2, v3, v4] t (0, 0))) :
    w.cell? ⟨g, 0, none⟩ = some v0 ∧ w.cell? ⟨g, 1, none⟩ = some v1 ∧ w.cell? ⟨g, 2, none⟩ = some v2 ∧ w.cell? ⟨g, 3, none⟩ = some v3 ∧ w.cell? ⟨g, 4, none⟩ = some v4 := by
  refine ⟨?_, ?_, ?_, ?_, ?_⟩ <;> simp [World.cell?, h]

set_option maxRecDepth 10000 in
set_option maxHeartbeats 2000000 in
theorem take_any (w : World) (hb : Nat) (h : Hd) (gl : Nat) (gf : Option Nat) (ls : List Lnk) (free l1 l2 : List Nat) (n : Nat) (cl : Nat) (vf : Value) (hm : Mem w hb h gl gf ls free cl vf) (hG : Good ls free (l1 ++ n :: l2)) (hlen : ls.length ≤ 1000) :
    Calls Tryz.prog 167 #[.pointer (some ⟨hb, 4, none⟩), .int .i64 n] w fun e w' => ∃ gf' vf', e = .returned (.agg #[.string (lk ls n).val.key, .int .i64 (lk ls n).val.flags, .string (lk ls n).val.data, .int .i64 (lk ls n).val.upto, .int .i64 (lk ls n).val.token]) ∧
      Mem w' hb h gl gf' (takeL ls n) (free ++ [n]) cl vf' ∧ (gf' = gf ∨ ∃ g, gf' = some g ∧ w.heap.size ≤ g) ∧ Keeps ([hb, gl] ++ gf.toList) w w' := by
  obtain ⟨ha, hbd, ea, eb⟩ := mid_lt hG
  have hn := hG.inO n (by simp)
  have hln := hG.len
  obtain ⟨c0, c1, c2, c3, c4, c5, c6⟩ := hm.box.cells
  obtain ⟨i0, i1, i2, i3, i4⟩ := hm.links.item hn.2
  have i5 := hm.links.ahead hn.2
  have i6 := hm.links.behind hn.2
  have j6 := hm.links.behind ha
  have fz := fun j => Row.frozen hm.links j
  have hlt := hm.box.lt
  have hgt := Row.lt hm.links
  have hne := hm.n1
  have HM := hide hm
  have HG := hide hG
  generalize hx : (lk ls n).val = x at i0 i1 i2 i3 i4
  generalize ea' : (lk ls n).ahead = a at i5 ha j6
  generalize eb' : (lk ls n).behind = b at i6 hbd
  have hn' : (n : Int) < ls.length := by omega
  have ha' : (a : Int) < ls.length := by omega
  have hb' : (b : Int) < ls.length := by omega
  clear hm hG c0 c1 c2 c3 c5 c6 hln
  go_enter Tryz.func167, Tryz.ntmps167
  go_wp2_with (at_builtin; fail)
  have HM1 := hide ((unhide HM).keep (((Keeps.refl [] w).alloc (.cells #[.string ⟨#[]⟩, .int .i64 0, .string ⟨#[]⟩, .int .i64 0, .int .i64 0] 85)).alloc (.cells #[.string x.key, .int .i64 x.flags, .string x.data, .int .i64 x.upto, .int .i64 x.token, .int .i64 a, .int .i64 b] 196)) (by simp) (by simp) (by simp))
  have HK1 := hide (((Keeps.refl ([hb, gl] ++ gf.toList) w).alloc (.cells #[.string ⟨#[]⟩, .int .i64 0, .string ⟨#[]⟩, .int .i64 0, .int .i64 0] 85)).alloc (.cells #[.string x.key, .int .i64 x.flags, .string x.data, .int .i64 x.upto, .int .i64 x.token, .int .i64 a, .int .i64 b] 196))
  have l5 : ((w.alloc (.cells #[.string ⟨#[]⟩, .int .i64 0, .string ⟨#[]⟩, .int .i64 0, .int .i64 0] 85)).alloc (.cells #[.string x.key, .int .i64 x.flags, .string x.data, .int .i64 x.upto, .int .i64 x.token, .int .i64 a, .int .i64 b] 196)).heap[w.heap.size + 1]? = some (.cells #[.string x.key, .int .i64 x.flags, .string x.data, .int .i64 x.upto, .int .i64 x.token, .int .i64 a, .int .i64 b] 196 (0, 0)) := by
    have := heap_alloc_new (w.alloc (.cells #[.string ⟨#[]⟩, .int .i64 0, .string ⟨#[]⟩, .int .i64 0, .int .i64 0] 85)) (.cells #[.string x.key, .int .i64 x.flags, .string x.data, .int .i64 x.upto, .int .i64 x.token, .int .i64 a, .int .i64 b] 196)
    rwa [World.size_alloc] at this
  have r5 : ((w.alloc (.cells #[.string ⟨#[]⟩, .int .i64 0, .string ⟨#[]⟩, .int .i64 0, .int .i64 0] 85)).alloc (.cells #[.string x.key, .int .i64 x.flags, .string x.data, .int .i64 x.upto, .int .i64 x.token, .int .i64 a, .int .i64 b] 196)).heap[w.heap.size]? = some (.cells #[.string ⟨#[]⟩, .int .i64 0, .string ⟨#[]⟩, .int .i64 0, .int .i64 0] 85 (0, 0)) := by
    rw [Below.heap_alloc _ _ _ (by simp)]
    exact heap_alloc_new _ _
  generalize ((w.alloc (.cells #[.string ⟨#[]⟩, .int .i64 0, .string ⟨#[]⟩, .int .i64 0, .int .i64 0] 85)).alloc (.cells #[.string x.key, .int .i64 x.flags, .string x.data, .int .i64 x.upto, .int .i64 x.token, .int .i64 a, .int .i64 b] 196)) = w1 at HM1 HK1 l5 r5 ⊢
  clear c4 i0 i1 i2 i3 i4 i5 i6 j6 fz
  obtain ⟨c0, c1, c2, c3, c4, c5, c6⟩ := (unhide HM1).box.cells
  clear c0 c1 c2 c3 c5 c6
  have j6 := (unhide HM1).links.behind ha
  have fz := fun j => Row.frozen (unhide HM1).links j
  have q5 := lcell5 l5
  go_region
  have O2 := ((One.refl w1 gl).set (a * 7 + 6) (.int .i64 (b : Int))).drew
  have L2 := ((unhide HM1).links.setBehind ha b).drew
  generalize ((w1.setCell ⟨gl, a * 7 + 6, none⟩ (.int .i64 b)).drew) = w2 at O2 L2 ⊢
  have HM2 := hide ((unhide HM1).step O2.block L2 (by simp))
  have HK2 : Hid (Keeps ([hb, gl] ++ gf.toList) w w2) := O2.keeps (unhide HK1) (.inl (by simp))
  have l5' := (O2.block (w.heap.size + 1) (by omega)).trans l5
  have r5' := (O2.block w.heap.size (by omega)).trans r5
  clear O2 L2 l5 r5 q5 fz j6 c4 HM1 HK1
  obtain ⟨c0, c1, c2, c3, c4, c5, c6⟩ := (unhide HM2).box.cells
  have hl2 : (ls.set a { lk ls a with behind := b }).length = ls.length := by simp
  rw [hl2] at c4
  have j5 := (unhide HM2).links.ahead (p := b) (by omega)
  have fz := fun j => Row.frozen (unhide HM2).links j
  have q5 := lcell5 l5'
  clear c0 c1 c2 c3 c5 c6
  go_wp2
  go_region
  have O3 := ((One.refl w2 gl).set (b * 7 + 5) (.int .i64 (a : Int))).drew
  have L3 := ((unhide HM2).links.setAhead (p := b) (by omega) a).drew
  generalize ((w2.setCell ⟨gl, b * 7 + 5, none⟩ (.int .i64 a)).drew) = w3 at O3 L3 ⊢
  have etake : (ls.set a { lk ls a with behind := b }).set b { lk (ls.set a { lk ls a with behind := b }) b with ahead := a } = takeL ls n := by
    unfold takeL
    simp only [ea', eb']
  rw [etake] at L3
  have HM3 := hide ((unhide HM2).step O3.block L3 (by rw [takeL_len, hl2]))
  have HK3 : Hid (Keeps ([hb, gl] ++ gf.toList) w w3) := O3.keeps (unhide HK2) (.inl (by simp))
  have l6 := (O3.block (w.heap.size + 1) (by omega)).trans l5'
  have r6 := (O3.block w.heap.size (by omega)).trans r5'
  clear O3 L3 l5' r5' q5 fz j5 c4 HM2 HK2 etake
  obtain ⟨c0, c1, c2, c3, c4, c5, c6⟩ := (unhide HM3).box.cells
  have f5 := (unhide HM3).box.frozen 5
  clear c0 c1 c2 c3 c4 c6
  obtain ⟨i0, hi, hz0, hz1, hz2⟩ := iinfo_ex
  have HI := hide hi
  have HZ0 := hide hz0
  have HZ1 := hide hz1
  have HZ2 := hide hz2
  have hfl : free.length ≤ 1000 := by have := (unhide HG).len; simp at this; omega
  clear hi hz0 hz1 hz2
  go_wp2_with (at_builtin; go_loud (refine wpList_append_own_at _ rfl _ _ 106 rfl 0 3 i0 _ 1 8 Tryz.underlying106 (unhide HI) (unhide HZ0) (unhide HZ1) (unhide HZ2) rfl (by decide) _ _ _ rfl ((unhide HM3).fr.alloc _) ⟨w3.heap.size, 0, none⟩ 1 1 [.int .i64 n] rfl rfl (cell_one_new _ _ _) (ints_oneCell .i64 [(n : Int)]) (by unfold maxLen; omega) (by omega) (Nat.zero_le _) ?_))
  intro v' w4 hown' hgrow _ hloc
  obtain ⟨va, vc, hv'⟩ := own_form hown'
  have hm3 := unhide HM3
  have hz3 : w.heap.size + 1 < w3.heap.size := (Array.getElem?_eq_some_iff.1 l6).1
  have hgf : ∀ k, k < w3.heap.size → vf.ownBlock ≠ some k → w4.heap[k]? = w3.heap[k]? := fun k hk hn =>
    (hgrow.block k (by simp; omega) (fun e => hn e.symm)).trans (Below.heap_alloc _ _ _ hk)
  have hgn : ∀ g, vf.ownBlock = some g → g < w.heap.size := fun g hg => (unhide HM).gf_lt (hm3.own.symm.trans hg)
  have hbx := hm3.box.of_block (hgf hb hm3.box.lt (fun e => hm3.n2 (hm3.own.symm.trans e)))
  have l7 := (hgf (w.heap.size + 1) hz3 (fun e => by have := hgn _ e; omega)).trans l6
  have r7 := (hgf w.heap.size (by omega) (fun e => by have := hgn _ e; omega)).trans r6
  have HL4 := hide (Row.of_block hm3.links (hgf gl (Row.lt hm3.links) (fun e => hm3.n3 (hm3.own.symm.trans e))))
  have HK4 : Hid (Keeps ([hb, gl] ++ gf.toList) w w4) := ((unhide HK3).alloc _).grown hgrow (fun k e => .inl (by
    have := hm3.own.symm.trans e
    simp [this]))
  obtain ⟨c0, c1, c2, c3, c4, c5', c6⟩ := hbx.cells
  have f5' := hbx.frozen 5
  have q7 := lcell5 l7
  have fr7 : ∀ o, w4.frozen? ⟨w.heap.size, o, none⟩ = false := fun o => by simp [World.frozen?, r7]
  obtain ⟨s0, s1, s2, s3, s4⟩ := lcell4 r7
  have hz4 : w.heap.size + 1 < w4.heap.size := (Array.getElem?_eq_some_iff.1 l7).1
  have HB4 := hide hbx
  have HO4 := hide hown'
  have HLoc := hide hloc
  have R7 := hide r7
  subst hv'
  clear c0 c1 c2 c3 c4 c6 hbx hown' hgrow hloc hgf l6 r6 l7 r7 c5 f5 hm3
  go_wp2
  refine bodyPost_ret (v := .agg #[.string x.key, .int .i64 x.flags, .string x.data, .int .i64 x.upto, .int .i64 x.token]) (by simp [results, Tryz.results167, go_sem, s0, s1, s2, s3, s4]) rfl ?_
  have hm := unhide HM
  have O8 := (((((One.refl (w4.setCell ⟨hb, 5, none⟩ (.slice va (free.length + 1) vc)) w.heap.size).set 0 (.string x.key)).set 1 (.int .i64 x.flags)).set 2 (.string x.data)).set 3 (.int .i64 x.upto)).set 4 (.int .i64 x.token)
  generalize ((((((w4.setCell ⟨hb, 5, none⟩ (.slice va (free.length + 1) vc)).setCell ⟨w.heap.size, 0, none⟩ (.string x.key)).setCell ⟨w.heap.size, 1, none⟩ (.int .i64 x.flags)).setCell ⟨w.heap.size, 2, none⟩ (.string x.data)).setCell ⟨w.heap.size, 3, none⟩ (.int .i64 x.upto)).setCell ⟨w.heap.size, 4, none⟩ (.int .i64 x.token)) = w8 at O8 ⊢
  have hbk : ∀ k, k ≠ hb → k ≠ w.heap.size → w8.heap[k]? = w4.heap[k]? := fun k h1 h2 => (O8.block k h2).trans (Below.heap_setCell _ _ _ _ h1)
  have hloc2 : ∀ g, (Value.slice va (free.length + 1) vc).ownBlock = some g → vf.ownBlock = some g ∨ w.heap.size + 1 < g := by
    intro g hg
    rcases unhide HLoc with e | e
    · exact .inl (e.symm.trans hg)
    · rw [hg] at e
      simp at e
      exact .inr (by omega)
  refine ⟨(Value.slice va (free.length + 1) vc).ownBlock, .slice va (free.length + 1) vc, rfl, ⟨?_, ?_, ?_, rfl, hm.n1, ?_, ?_⟩, ?_, ?_⟩
  · exact ((unhide HB4).set5 _).of_block (O8.block hb (by omega))
  · exact Row.of_block (unhide HL4) (hbk gl (Ne.symm hm.n1) (by omega))
  · have e1 : ints (free ++ [n]) = ints free ++ [.int .i64 (n : Int)] := by simp [ints]
    rw [e1, List.length_append]
    exact own_blocks (unhide HO4) (fun g hg => hbk g
      (fun e => by
        rcases hloc2 g hg with h1 | h1
        · have := hgn g h1; exact (unhide HM3).n2 ((unhide HM3).own.symm.trans (h1.trans (by rw [e])))
        · omega)
      (fun e => by
        rcases hloc2 g hg with h1 | h1
        · have := hgn g h1; omega
        · omega))
  · intro e
    rcases hloc2 hb e with h1 | h1
    · exact (unhide HM3).n2 ((unhide HM3).own.symm.trans h1)
    · omega
  · intro e
    rcases hloc2 gl e with h1 | h1
    · exact (unhide HM3).n3 ((unhide HM3).own.symm.trans h1)
    · omega
  · rcases unhide HLoc with e | e
    · exact .inl (e.trans (unhide HM3).own)
    · exact .inr ⟨_, e, by omega⟩
  · exact O8.keeps ((unhide HK4).setCell (.inl (by simp)) _) (.inr (Nat.le_refl _))
end Chain
end Go.Proofs.YtkodgbalhnbhcaaGreatDoor
/-
  The contract of the model's l1In; what a good key is, as a plain function of its bytes.
-/
namespace Go.Proofs.YtkodgbalhnbhcaaGreatDoor
namespace GoodKey
open Go.RowKit Base
set_option linter.unusedVariables false

def okb (c : UInt8) : Bool := decide (33 ≤ c.toNat) && decide (c.toNat ≤ 126)
def inB (n lo hi : Int) : Bool := decide (lo ≤ n) && decide (n ≤ hi)
def gk (l : List UInt8) : Bool := inB l.length 1 30 && l.all okb

theorem take_snoc (s : ByteArray) (k : Nat) (h : k < s.size) : s.data.toList.take (k + 1) = s.data.toList.take k ++ [s[k]] := by
  rw [List.take_succ_eq_append_getElem (by simpa using h)]; rfl
theorem all_snoc (s : ByteArray) (k : Nat) (h : k < s.size) (ha : (s.data.toList.take k).all okb = true) (h1 : ¬ (s[k].toNat : Int) < 33) (h2 : ¬ 126 < (s[k].toNat : Int)) :
    (s.data.toList.take (k + 1)).all okb = true := by
  rw [take_snoc s k h, List.all_append, ha]
  simp [okb]; omega
theorem gk_bad (s : ByteArray) (k : Nat) (h : k < s.size) (hb : (s[k].toNat : Int) < 33 ∨ 126 < (s[k].toNat : Int)) : gk s.data.toList = false := by
  have hm : s[k] ∈ s.data.toList := by
    have e : s[k] = s.data.toList[k]'(by simpa using h) := rfl
    rw [e]; exact List.getElem_mem _
  have ho : okb s[k] = false := by simp [okb]; omega
  have ha : s.data.toList.all okb = false := by
    rw [List.all_eq_false]; exact ⟨_, hm, by simp [ho]⟩
  simp [gk, ha]
theorem gk_all (s : ByteArray) (k : Nat) (hk : k ≤ s.size) (h : ¬ k < s.size) (ha : (s.data.toList.take k).all okb = true) : inB s.size 1 30 = gk s.data.toList := by
  have e : s.data.toList.take k = s.data.toList := List.take_of_length_le (by simp; omega)
  rw [e] at ha
  have el : s.data.toList.length = s.size := by simp
  simp [gk, ha, el]
theorem gk_len (s : ByteArray) (h : (s.size : Int) < 1 ∨ 30 < (s.size : Int)) : gk s.data.toList = false := by
  have el : s.data.toList.length = s.size := by simp
  have e : inB s.size 1 30 = false := by simp [inB]; omega
  simp [gk, el, e]
theorem inB_true (s : ByteArray) (h1 : ¬ (s.size : Int) < 1) (h2 : ¬ 30 < (s.size : Int)) : inB s.size 1 30 = true := by simp [inB]; omega

set_option maxHeartbeats 400000 in
theorem l1In_any (n lo hi : Int) (w : World) :
    Calls Tryz.prog 55 #[.int .i64 n, .int .i64 lo, .int .i64 hi] w fun e w' => e = .returned (.bool (inB n lo hi)) ∧ w' = w := by
  by_cases h : lo ≤ n
  · go_enter Tryz.func55, Tryz.ntmps55
    go_wp2
    go_ret
    exact ⟨ret_bool (by simp [inB, h]), rfl⟩
  · go_enter Tryz.func55, Tryz.ntmps55
    go_wp2
    go_ret
    exact ⟨ret_bool (by rw [inB, decide_eq_false (by omega)]; rfl), rfl⟩

end GoodKey
end Go.Proofs.YtkodgbalhnbhcaaGreatDoor
/-
  The contract of the model's GoodKey: it answers by a plain function of the bytes, for every string.
-/
namespace Go.Proofs.YtkodgbalhnbhcaaGreatDoor
namespace GoodKey
open Go.RowKit Base
set_option linter.unusedVariables false

set_option maxHeartbeats 400000 in
theorem spec_any (s : ByteArray) (w : World) (hs : s.size ≤ maxLen) :
    Calls Tryz.prog 67 #[.string s] w fun e w' => e = .returned (.bool (gk s.data.toList)) ∧ w' = w := by
  unfold maxLen at hs
  go_enter Tryz.func67, Tryz.ntmps67
  go_wp2
  go_loop [3] (fun i => ∃ k : Nat, k ≤ s.size ∧ i = .int .i64 k ∧ Hid ((s.data.toList.take k).all okb = true)) (fun i => s.size - (intOf i).toNat)
  case atStart => exact ⟨0, Nat.zero_le _, rfl, hide rfl⟩
  case round =>
    obtain ⟨k, hk, rfl, ha⟩ := hrel
    by_cases hlt : k < s.size
    · by_cases h1 : (s[k].toNat : Int) < 33
      · have H := hide (gk_bad s k hlt (.inl h1))
        go_wp2
        go_ret
        exact ⟨ret_bool (unhide H).symm, rfl⟩
      · by_cases h2 : 126 < (s[k].toNat : Int)
        · have H := hide (gk_bad s k hlt (.inr h2))
          go_wp2
          go_ret
          exact ⟨ret_bool (unhide H).symm, rfl⟩
        · have H := hide (all_snoc s k hlt (unhide ha) h1 h2)
          go_wp2
          go_round
          case rel => exact ⟨k + 1, by omega, by go_num, H⟩
          case measure => simp [intOf]; omega
    · have H := hide (gk_all s k hk hlt (unhide ha))
      go_wp2_with (go_at_call 55; refine (l1In_any _ _ _ _).mono ?_; rintro e w' ⟨rfl, rfl⟩)
      go_ret
      exact ⟨ret_bool (unhide H), rfl⟩

end GoodKey
end Go.Proofs.YtkodgbalhnbhcaaGreatDoor
