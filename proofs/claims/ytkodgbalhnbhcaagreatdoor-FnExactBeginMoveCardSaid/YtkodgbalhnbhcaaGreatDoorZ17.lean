/-
  The program's search by halving and ownerIn: the name of the first point that is not below the key's hash, going round.
-/
import Derived.Test.YtkodgbalhnbhcaaGreatDoorZ16
import Derived.Test.YtkodgbalhnbhcaaGreatDoorZ6
import Derived.Outline
import Derived.Test.YtkodgbalhnbhcaaGreatDoorZ13
import Derived.Test.YtkodgbalhnbhcaaGreatDoorZ14
import Derived.Test.YtkodgbalhnbhcaaGreatDoorZ5
namespace Go.Proofs.YtkodgbalhnbhcaaGreatDoor
namespace Ring
open Go.RowKit Base Points Marks
set_option linter.unusedVariables false

set_option maxRecDepth 10000 in
set_option maxHeartbeats 400000 in
theorem ownerCmp_any (x : D) (h : Int) (w : World) : Calls Tryz.prog 140 #[.agg #[.int .u32 x.pos, .string x.name], .int .u32 h] w fun e w' => e = .returned (.int .i64 (cmpI x.pos h)) ∧ Below w.heap.size w w' := by
  obtain ⟨p, m⟩ := x
  go_enter Tryz.func140, Tryz.ntmps140
  go_wp2_with (go_at_call 141; refine (compareU _ _ _).mono ?_; rintro e w' ⟨rfl, rfl⟩)
  go_ret
  exact ⟨rfl, bel1 w _⟩
theorem cmpI_lt (a b : Int) : decide (cmpI a b < 0) = decide (a < b) := by
  unfold cmpI
  by_cases h : a < b
  · simp [h]
  · rw [if_neg h]
    split <;> simp [h]
theorem at_pt {w : World} {g n : Nat} {t : TypeId} {L : List D} (h : RowAt w g t (n * 2) (icell L)) {i : Nat} (hi : i < n) : w.cell? ⟨g, i * 2, none⟩ = some (.int .u32 (L.getD i zero).pos) ∧ w.cell? ⟨g, i * 2 + 1, none⟩ = some (.string (L.getD i zero).name) := by
  refine ⟨?_, ?_⟩
  · rw [h.cell (by omega), icell, show (i * 2) % 2 = 0 by omega, show (i * 2) / 2 = i by omega]; simp
  · rw [h.cell (by omega), icell, show (i * 2 + 1) % 2 = 1 by omega, show (i * 2 + 1) / 2 = i by omega]; simp

set_option maxRecDepth 10000 in
set_option maxHeartbeats 2000000 in
theorem search_some (g cap n : Nat) (L : List D) (h : Int) (w : World) (hr : RowAt w g 129 (n * 2) (icell L)) (hn : L.length = n) (h1 : n ≤ 1000) (hs : Sorted L) :
    Calls Tryz.prog 138 #[.slice (some ⟨g, 0, none⟩) n cap, .int .u32 h, .func (.func 140) #[] #[]] w fun e w' =>
      ∃ (i : Nat) (fb : Bool), e = .returned (.tuple #[.int .i64 (i : Int), .bool fb]) ∧ i ≤ n ∧ Halved L h i i ∧ Below w.heap.size w w' := by
  have HR := hide hr
  have HN := hide hn
  have HS := hide hs
  have hglt := hr.lt
  clear hr hn hs
  go_enter Tryz.func138, Tryz.ntmps138
  go_wp2
  go_loopw [9, 10] (fun iv jv wr => ∃ (i j : Nat), iv = .int .i64 (i : Int) ∧ jv = .int .i64 (j : Int) ∧ i ≤ j ∧ j ≤ n ∧ Hid (Halved L h i j) ∧ Hid (Below w.heap.size w wr)) (fun iv jv _ => (intOf jv).toNat - (intOf iv).toNat)
  case atStart => exact ⟨0, n, rfl, rfl, Nat.zero_le _, Nat.le_refl _, hide (by have := halved_start L h; rwa [unhide HN] at this), hide (Below.refl _ _)⟩
  case round =>
    obtain ⟨i, j, rfl, rfl, hij, hjn, hH, hbel⟩ := hrel
    by_cases hlt : i < j
    · obtain ⟨c0, c1⟩ := at_pt ((unhide HR).below (unhide hbel) hglt) (show (i + j) / 2 < n by omega)
      have hlo := hide (halved_low (unhide HS) (unhide hH) (show i ≤ (i + j) / 2 by omega) (by omega))
      have hhi := hide (halved_high (unhide HS) (unhide hH) (show i ≤ (i + j) / 2 by omega) (by omega))
      have hm1 : i ≤ (i + j) / 2 := by omega
      have hm2 : (i + j) / 2 < j := by omega
      generalize L.getD ((i + j) / 2) zero = x at c0 c1 hlo hhi
      have hcl := fun w => ownerCmp_any x h w
      have hlt0 := cmpI_lt x.pos h
      generalize cmpI x.pos h = r at hcl hlt0
      have HCL := hide hcl
      clear hcl
      by_cases hx : x.pos < h
      · have hr0 : r < 0 := by have := hlt0.trans (decide_eq_true hx); simpa using this
        have HH := hide (unhide hlo hx)
        clear hlt0 hlo hhi
        go_wp2_with (go_at_call 140; refine (unhide HCL _).mono ?_; rintro e w1 ⟨rfl, hb1⟩; have HB1 := hide hb1)
        go_roundw
        case rel => exact ⟨(i + j) / 2 + 1, j, by go_num, rfl, by omega, hjn, HH, hide ((unhide hbel).trans ((unhide HB1).mono (unhide hbel).size))⟩
        case measure => simp [intOf]; omega
      · have hr0 : ¬ r < 0 := by have := hlt0.trans (decide_eq_false hx); simpa using this
        have HH := hide (unhide hhi (by omega))
        clear hlt0 hlo hhi
        go_wp2_with (go_at_call 140; refine (unhide HCL _).mono ?_; rintro e w1 ⟨rfl, hb1⟩; have HB1 := hide hb1)
        go_roundw
        case rel => exact ⟨i, (i + j) / 2, rfl, by go_num, by omega, by omega, HH, hide ((unhide hbel).trans ((unhide HB1).mono (unhide hbel).size))⟩
        case measure => simp [intOf]; omega
    · obtain rfl : i = j := by omega
      by_cases hin : i < n
      · obtain ⟨c0, c1⟩ := at_pt ((unhide HR).below (unhide hbel) hglt) hin
        generalize L.getD i zero = x at c0 c1
        have hcl := fun w => ownerCmp_any x h w
        generalize cmpI x.pos h = r at hcl
        have HCL := hide hcl
        clear hcl
        go_wp2_with (go_at_call 140; refine (unhide HCL _).mono ?_; rintro e w1 ⟨rfl, hb1⟩; have HB1 := hide hb1)
        go_ret2
        exact ⟨i, _, rfl, hjn, unhide hH, (unhide hbel).trans ((unhide HB1).mono (unhide hbel).size)⟩
      · go_wp2
        go_ret2
        exact ⟨i, _, rfl, hjn, unhide hH, unhide hbel⟩

set_option maxRecDepth 10000 in
set_option maxHeartbeats 1000000 in
theorem ownerIn_some (g cap n : Nat) (L : List D) (key : ByteArray) (w : World) (hr : RowAt w g 129 (n * 2) (icell L)) (hn : L.length = n) (h0 : 0 < n) (h1 : n ≤ 1000) (hs : Sorted L) (hk : key.size ≤ maxLen) :
    Calls Tryz.prog 104 #[.slice (some ⟨g, 0, none⟩) n cap, .string key] w fun e w' => e = .returned (.string (ownerN L (Hash.hashN key.data.toList))) ∧ Below w.heap.size w w' := by
  have hh := fun w => Hash.hash_any key w hk
  have hsr := fun h => search_some g cap n L h w hr hn h1 hs
  have hend := fun h i => @halved_end L h i
  generalize Hash.hashN key.data.toList = h at hh ⊢
  have hsr := hsr h
  have hend := hend h
  generalize ownerN L h = ans at hend ⊢
  rw [hn] at hend
  have HEND := hide hend
  have HH := hide hh
  have HSR := hide hsr
  have HR := hide hr
  have hglt := hr.lt
  clear hh hsr hr hs hend hn
  go_enter Tryz.func104, Tryz.ntmps104
  go_wp2_with fail
  refine (unhide HH _).mono ?_
  rintro e w1 ⟨rfl, rfl⟩
  go_wp2_with fail
  refine (unhide HSR).mono ?_
  rintro e w2 ⟨i, fb, rfl, hin, hH, hb2⟩
  have HE := hide (unhide HEND i hH h0)
  have HB := hide hb2
  have hlt2 : g < w2.heap.size := Nat.lt_of_lt_of_le hglt hb2.size
  have hmod : i % n = if i < n then i else 0 := by
    by_cases hi : i < n
    · rw [if_pos hi, Nat.mod_eq_of_lt hi]
    · obtain rfl : i = n := by omega
      rw [if_neg hi, Nat.mod_self]
  have hml : i % n < n := Nat.mod_lt _ h0
  obtain ⟨c0, c1⟩ := at_pt ((unhide HR).below hb2 hglt) hml
  have HE2 := unhide HE
  rw [← hmod] at HE2
  rw [← HE2] at c1
  have hm0 : (0 : Int) ≤ (i : Int) % (n : Int) := Int.emod_nonneg _ (by omega)
  have hm1 : (i : Int) % (n : Int) < (n : Int) := Int.emod_lt_of_pos _ (by omega)
  have hn0 : ¬ (n : Int) = 0 := by omega
  clear hb2 hH HE HE2 hmod c0
  go_wp2
  go_ret
  exact ⟨rfl, unhide HB⟩
end Ring
end Go.Proofs.YtkodgbalhnbhcaaGreatDoor
/-
  The program's isMoving and ringsOf.
-/
namespace Go.Proofs.YtkodgbalhnbhcaaGreatDoor
namespace Clus
open Go.RowKit Base GoodKey Marks
set_option linter.unusedVariables false

set_option maxRecDepth 10000 in
set_option maxHeartbeats 1000000 in
theorem moving_any (now nx lim lost : Int) (b1 b2 b3 : Nat) (ns cs : List Nodes.D) (L : List Pls.Pl) (w : World) :
    Calls Tryz.prog 64 #[.agg #[.int .i64 now, .int .i64 nx, .int .i64 lim, .int .i64 lost, .slice (some ⟨b1, 0, none⟩) ns.length ns.length, .slice (some ⟨b2, 0, none⟩) cs.length cs.length, .slice (some ⟨b3, 0, none⟩) L.length L.length]] w fun e w' => e = .returned (.bool (decide (0 < (cs.length : Int)))) ∧ Below w.heap.size w w' := by
  go_enter Tryz.func64, Tryz.ntmps64
  go_wp2
  go_ret
  exact ⟨ret_bool (by first | rfl | simp), bel1 w _⟩

set_option maxRecDepth 10000 in
set_option maxHeartbeats 2000000 in
theorem rings_any (now nx lim lost : Int) (b1 b2 b3 : Nat) (ns cs : List Nodes.D) (L : List Pls.Pl) (w : World) (hR : CR w b1 b2 b3 ns cs L) (h1 : NodesM.gnB ns = true) (h2 : cs = [] ∨ NodesM.gnB cs = true) (hv : Ring.Vars w) :
    Calls Tryz.prog 103 #[.agg #[.int .i64 now, .int .i64 nx, .int .i64 lim, .int .i64 lost, .slice (some ⟨b1, 0, none⟩) ns.length ns.length, .slice (some ⟨b2, 0, none⟩) cs.length cs.length, .slice (some ⟨b3, 0, none⟩) L.length L.length]] w fun e w' => ∃ g1 c1 g2 c2, e = .returned (.tuple #[.slice (some ⟨g1, 0, none⟩) (Ring.points ns).length c1, .slice (some ⟨g2, 0, none⟩) (Ring.points (goal ns cs)).length c2]) ∧
      RowAt w' g1 129 ((Ring.points ns).length * 2) (Points.icell (Ring.ring (Ring.points ns))) ∧ RowAt w' g2 129 ((Ring.points (goal ns cs)).length * 2) (Points.icell (Ring.ring (Ring.points (goal ns cs)))) ∧ Below w.heap.size w w' := by
  have HV := hide hv
  have RN := hide (fun w' (hb : Below w.heap.size w w') => Ring.ringOf_some b1 0 ns.length ns w' (hR.below hb (Nat.le_refl _)).n.lt (Nodes.at_row (hR.below hb (Nat.le_refl _)).n) h1 (hv.below hb))
  have HM := hide (fun w' => moving_any now nx lim lost b1 b2 b3 ns cs L w')
  rcases h2 with h2 | h2
  · have hcp : decide (0 < (cs.length : Int)) = false := by rw [h2]; rfl
    have eg : goal ns cs = ns := by rw [h2]; rfl
    rw [eg]
    rw [hcp] at HM
    clear hR h1 h2 hv eg hcp
    generalize (Ring.points ns).length = n at RN ⊢
    generalize Points.icell (Ring.ring (Ring.points ns)) = F at RN ⊢
    go_enter Tryz.func103, Tryz.ntmps103
    go_wp2_with fail
    refine (unhide RN _ (bel1 w _)).mono ?_
    rintro e w1 ⟨g1, c1, rfl, -, hr1, hb1⟩
    simp only [World.size_alloc] at hb1
    have B1 := hide ((bel1 w _).trans (hb1.mono (by omega)))
    have hx := boxcell hb1
    have R1 := hide hr1
    clear hb1 hr1
    go_wp2_with fail
    refine (unhide HM _).mono ?_
    rintro e w2 ⟨rfl, hb2⟩
    have B2 := hide ((unhide B1).trans (hb2.mono (unhide B1).size))
    have R2 := hide ((unhide R1).below hb2 (unhide R1).lt)
    clear hb2 hx R1
    go_wp2
    go_ret2
    exact ⟨g1, c1, g1, c1, rfl, unhide R2, unhide R2, unhide B2⟩
  · have hne : 0 < cs.length := List.length_pos_iff.2 (fun e => by rw [e] at h2; simp [NodesM.gnB, inB] at h2)
    have hcp : decide (0 < (cs.length : Int)) = true := by simp; omega
    have eg : goal ns cs = cs := by unfold goal; cases cs; simp at hne; rfl
    rw [eg]
    rw [hcp] at HM
    have RC := hide (fun w' (hb : Below w.heap.size w w') => Ring.ringOf_some b2 0 cs.length cs w' (hR.below hb (Nat.le_refl _)).c.lt (Nodes.at_row (hR.below hb (Nat.le_refl _)).c) h2 (hv.below hb))
    clear hR h1 h2 hv eg hcp hne
    generalize (Ring.points ns).length = n at RN ⊢
    generalize Points.icell (Ring.ring (Ring.points ns)) = F at RN ⊢
    generalize (Ring.points cs).length = m at RC ⊢
    generalize Points.icell (Ring.ring (Ring.points cs)) = G at RC ⊢
    go_enter Tryz.func103, Tryz.ntmps103
    go_wp2_with fail
    refine (unhide RN _ (bel1 w _)).mono ?_
    rintro e w1 ⟨g1, c1, rfl, -, hr1, hb1⟩
    simp only [World.size_alloc] at hb1
    have X1 := hide hb1
    have hz1 : w.heap.size + 1 ≤ w1.heap.size := by have := hb1.size; simp at this; omega
    have B1 := hide ((bel1 w _).trans (hb1.mono (by omega)))
    have hx := boxcell hb1
    have R1 := hide hr1
    clear hb1 hr1
    go_wp2_with fail
    refine (unhide HM _).mono ?_
    rintro e w2 ⟨rfl, hb2⟩
    have B2 := hide ((unhide B1).trans (hb2.mono (unhide B1).size))
    have X2 := hide ((unhide X1).trans (hb2.mono hz1))
    have hx2 := boxcell (unhide X2)
    have R2 := hide ((unhide R1).below hb2 (unhide R1).lt)
    clear hb2 hx R1 X1
    go_wp2_with fail
    refine (unhide RC _ (unhide B2)).mono ?_
    rintro e w3 ⟨g2, c2, rfl, -, hr3, hb3⟩
    have B3 := hide ((unhide B2).trans (hb3.mono (unhide B2).size))
    have R3 := hide ((unhide R2).below hb3 (unhide R2).lt)
    have S3 := hide hr3
    clear hb3 hr3 hx2 R2
    go_wp2
    go_ret2
    exact ⟨g1, c1, g2, c2, rfl, unhide R3, unhide S3, unhide B3⟩
end Clus
end Go.Proofs.YtkodgbalhnbhcaaGreatDoor
/-
  The places where a key stands and is not old, as plain functions. No Go function is spoken of here.
-/
namespace Go.Proofs.YtkodgbalhnbhcaaGreatDoor
namespace Clus
open Go.RowKit Base GoodKey Items Store Plc
set_option linter.unusedVariables false

def standB (now : Int) (key : ByteArray) (x : Itm) : Bool := hasKey key x && !oldB x now
/-- By the first item with that key. -/
def modB (now : Int) (key : ByteArray) (its : List Itm) : Bool := match atN its key with | some k => !oldB (its.getD k zero) now | none => false
theorem mod_eq {lim nx : Int} {its : List Itm} (h : gsB lim nx its = true) (now : Int) (key : ByteArray) : modB now key its = its.any (standB now key) := by
  have hnd := (gs_nodup h).1
  unfold modB
  cases e : atN its key with
  | none =>
    unfold atN at e
    rw [List.findIdx?_eq_none_iff] at e
    symm
    rw [List.any_eq_false]
    intro x hx
    simp [standB, e x hx]
  | some k =>
    unfold atN at e
    obtain ⟨hk, h1, _⟩ := List.findIdx?_eq_some_iff_getElem.1 e
    have eg : its.getD k zero = its[k] := by simp [hk]
    show (!oldB (its.getD k zero) now) = _
    rw [eg]
    have same : ∀ x ∈ its, hasKey key x = true → x = its[k] := by
      intro x hx hh
      obtain ⟨j, hj, rfl⟩ := List.getElem_of_mem hx
      by_cases ejk : j = k
      · subst ejk; rfl
      · exfalso
        have hkk : kL its[j] = kL its[k] := by
          unfold hasKey at hh h1
          rw [Lib.toList_data, Lib.toList_data, beq_iff_eq] at hh h1
          unfold kL
          rw [hh, h1]
        have hp := List.pairwise_iff_getElem.1 hnd
        rcases Nat.lt_or_gt_of_ne ejk with hl | hl
        · exact hp j k (by simpa using hj) (by simpa using hk) hl (by simpa using hkk)
        · exact hp k j (by simpa using hk) (by simpa using hj) hl (by simpa using hkk.symm)
    cases ho : oldB its[k] now
    · symm
      rw [Bool.not_false, List.any_eq_true]
      exact ⟨its[k], List.getElem_mem hk, by simp [standB, h1, ho]⟩
    · symm
      rw [Bool.not_true, List.any_eq_false]
      intro x hx
      cases hh : hasKey key x
      · simp [standB, hh]
      · rw [same x hx hh]; simp [standB, ho]
def stayB (now : Int) (key : ByteArray) (p : Pls.Pl) : Bool := p.its.any (standB now key)
/-- The names of the first k places that have it. -/
def poN (L : List Pls.Pl) (now : Int) (key : ByteArray) (k : Nat) : List ByteArray := ((L.take k).filter (stayB now key)).map (·.name)
theorem poN_succ {L : List Pls.Pl} {now : Int} {key : ByteArray} {k : Nat} (hk : k < L.length) : poN L now key (k + 1) = if stayB now key (L.getD k Pls.zeroL) then poN L now key k ++ [(L.getD k Pls.zeroL).name] else poN L now key k := by
  unfold poN
  rw [List.take_succ_eq_append_getElem hk, List.filter_append, List.map_append]
  have e : L.getD k Pls.zeroL = L[k] := by simp [hk]
  rw [e]
  cases h : stayB now key L[k] <;> simp [h]
theorem poN_len (L : List Pls.Pl) (now : Int) (key : ByteArray) (k : Nat) : (poN L now key k).length ≤ k := by
  unfold poN
  rw [List.length_map]
  exact Nat.le_trans (List.length_filter_le _ _) (by simp; omega)
/-- What PlacesOf tells. -/
def poR (C : CC) (key : ByteArray) : List ByteArray × Bool := if gcB C && gk key.data.toList then ((C.ps.filter (fun p => p.its.any (standB C.now key))).map (·.name), true) else ([], false)
theorem poR_no {C : CC} {key : ByteArray} (h : gcB C = false ∨ gk key.data.toList = false) : poR C key = ([], false) := by
  unfold poR
  rcases h with h | h <;> simp [h]
theorem poR_yes {C : CC} {L : List Pls.Pl} {key : ByteArray} (hL : C.ps = L.map Pls.core) (h1 : gcB C = true) (h2 : gk key.data.toList = true) : poR C key = (poN L C.now key L.length, true) := by
  unfold poR poN
  rw [h1, h2, hL, List.take_length, List.filter_map]
  simp only [Bool.and_self, if_true, List.map_map]
  rfl
theorem names_size {C : CC} (h1 : NodesM.gnB C.ns = true) (h2 : C.cs = [] ∨ NodesM.gnB C.cs = true) {k : Nat} (hk : k < (names C).length) : ((names C).getD k ByteArray.empty).size ≤ 8 := by
  have hm : (names C).getD k ByteArray.empty ∈ names C := by rw [List.getD_eq_getElem?_getD, List.getElem?_eq_getElem hk]; simp
  have key : ∀ l : List Nodes.D, NodesM.gnB l = true → ∀ x ∈ l, x.name.size ≤ 8 := fun l hl x hx => by
    obtain ⟨i, hi, rfl⟩ := List.getElem_of_mem hx
    have := (Ring.node_bd (Ring.good_at hl hi)).1
    rw [List.getD_eq_getElem?_getD, List.getElem?_eq_getElem hi] at this
    exact this
  rcases List.mem_append.1 ((insAll_mem _ _).1 hm) with h | h
  · obtain ⟨x, hx, e⟩ := List.mem_map.1 h
    rw [← e]; exact key _ h1 x hx
  · obtain ⟨x, hx, e⟩ := List.mem_map.1 h
    rw [← e]
    rcases h2 with h2 | h2
    · rw [h2] at hx; simp at hx
    · exact key _ h2 x hx
theorem gc_stores {C : CC} {L : List Pls.Pl} (hL : C.ps = L.map Pls.core) (h : gcB C = true) : L.length ≤ 16 ∧ ∀ k, k < L.length → gsB (L.getD k Pls.zeroL).lim (L.getD k Pls.zeroL).nx (L.getD k Pls.zeroL).its = true ∧ (L.getD k Pls.zeroL).name.size ≤ 8 := by
  rw [gc_eq, Bool.and_eq_true, Bool.and_eq_true] at h
  obtain ⟨⟨hh, hp⟩, _⟩ := h
  obtain ⟨_, _, _, _, g5, g6⟩ := (head_iff C).1 hh
  have hn := Ring.good_len g5
  have hc8 : C.cs.length ≤ 8 := by
    rcases g6 with e | e
    · rw [e]; simp
    · exact (Ring.good_len e).2
  unfold placesB at hp
  rw [Bool.and_eq_true, decide_eq_true_eq, List.all_eq_true] at hp
  have hlen : C.ps.length = L.length := by rw [hL]; simp
  have h1 := insAll_len (C.ns.map (·.name) ++ C.cs.map (·.name))
  rw [List.length_append, List.length_map, List.length_map] at h1
  have h2 : (names C).length = L.length := hp.1.trans hlen
  have h3 : (names C).length ≤ C.ns.length + C.cs.length := h1
  refine ⟨by omega, fun k hk => ?_⟩
  have hpl := (pl_iff hL).1 (hp.2 k (by simpa [hlen] using hk))
  exact ⟨hpl.2.1, by rw [hpl.1]; exact names_size g5 g6 (by omega)⟩
end Clus
end Go.Proofs.YtkodgbalhnbhcaaGreatDoor
