/-
  The places where a key stands and is not old, as plain functions. No Go function is spoken of here.
-/
import Derived.Test.YtpihkjpnaefacaaGreatDoorClusZ
import Derived.Test.YtpihkjpnaefacaaGreatDoorStoreY
import Derived.Test.YtpihkjpnaefacaaGreatDoorClusS
import Derived.Test.YtpihkjpnaefacaaGreatDoorNamZ
namespace Go.Proofs.YtpihkjpnaefacaaGreatDoor
namespace Clus
open Go.RowKit Base GoodKey Items Store Plc
set_option linter.unusedVariables false

def standB (now : Int) (key : ByteArray) (x : Itm) : Bool := hasKey key x && !oldB x now
/-- By the first item with that key. -/
def modB (now : Int) (key : ByteArray) (its : List Itm) : Bool := match atN its key with | some k => !oldB (its.getD k zero) now | none => false
theorem mod_eq {lim nx : Int} {its : List Itm} (h : gsB lim nx its = true) (now : Int) (key : ByteArray) : modB now key its = its.any (standB now key) := by
  have hnd := (gs_nodup h).1
  unfold modB
  cases e : atN its key with
  | none =>
    unfold atN at e
    rw [List.findIdx?_eq_none_iff] at e
    symm
    rw [List.any_eq_false]
    intro x hx
    simp [standB, e x hx]
  | some k =>
    unfold atN at e
    obtain ⟨hk, h1, _⟩ := List.findIdx?_eq_some_iff_getElem.1 e
    have eg : its.getD k zero = its[k] := by simp [hk]
    show (!oldB (its.getD k zero) now) = _
    rw [eg]
    have same : ∀ x ∈ its, hasKey key x = true → x = its[k] := by
      intro x hx hh
      obtain ⟨j, hj, rfl⟩ := List.getElem_of_mem hx
      by_cases ejk : j = k
      · subst ejk; rfl
      · exfalso
        have hkk : kL its[j] = kL its[k] := by
          unfold hasKey at hh h1
          rw [Lib.toList_data, Lib.toList_data, beq_iff_eq] at hh h1
          unfold kL
          rw [hh, h1]
        have hp := List.pairwise_iff_getElem.1 hnd
        rcases Nat.lt_or_gt_of_ne ejk with hl | hl
        · exact hp j k (by simpa using hj) (by simpa using hk) hl (by simpa using hkk)
        · exact hp k j (by simpa using hk) (by simpa using hj) hl (by simpa using hkk.symm)
    cases ho : oldB its[k] now
    · symm
      rw [Bool.not_false, List.any_eq_true]
      exact ⟨its[k], List.getElem_mem hk, by simp [standB, h1, ho]⟩
    · symm
      rw [Bool.not_true, List.any_eq_false]
      intro x hx
      cases hh : hasKey key x
      · simp [standB, hh]
      · rw [same x hx hh]; simp [standB, ho]
def stayB (now : Int) (key : ByteArray) (p : Pls.Pl) : Bool := p.its.any (standB now key)
/-- The names of the first k places that have it. -/
def poN (L : List Pls.Pl) (now : Int) (key : ByteArray) (k : Nat) : List ByteArray := ((L.take k).filter (stayB now key)).map (·.name)
theorem poN_succ {L : List Pls.Pl} {now : Int} {key : ByteArray} {k : Nat} (hk : k < L.length) : poN L now key (k + 1) = if stayB now key (L.getD k Pls.zeroL) then poN L now key k ++ [(L.getD k Pls.zeroL).name] else poN L now key k := by
  unfold poN
  rw [List.take_succ_eq_append_getElem hk, List.filter_append, List.map_append]
  have e : L.getD k Pls.zeroL = L[k] := by simp [hk]
  rw [e]
  cases h : stayB now key L[k] <;> simp [h]
theorem poN_len (L : List Pls.Pl) (now : Int) (key : ByteArray) (k : Nat) : (poN L now key k).length ≤ k := by
  unfold poN
  rw [List.length_map]
  exact Nat.le_trans (List.length_filter_le _ _) (by simp; omega)
/-- What PlacesOf tells. -/
def poR (C : CC) (key : ByteArray) : List ByteArray × Bool := if gcB C && gk key.data.toList then ((C.ps.filter (fun p => p.its.any (standB C.now key))).map (·.name), true) else ([], false)
theorem poR_no {C : CC} {key : ByteArray} (h : gcB C = false ∨ gk key.data.toList = false) : poR C key = ([], false) := by
  unfold poR
  rcases h with h | h <;> simp [h]
theorem poR_yes {C : CC} {L : List Pls.Pl} {key : ByteArray} (hL : C.ps = L.map Pls.core) (h1 : gcB C = true) (h2 : gk key.data.toList = true) : poR C key = (poN L C.now key L.length, true) := by
  unfold poR poN
  rw [h1, h2, hL, List.take_length, List.filter_map]
  simp only [Bool.and_self, if_true, List.map_map]
  rfl
theorem names_size {C : CC} (h1 : NodesM.gnB C.ns = true) (h2 : C.cs = [] ∨ NodesM.gnB C.cs = true) {k : Nat} (hk : k < (names C).length) : ((names C).getD k ByteArray.empty).size ≤ 8 := by
  have hm : (names C).getD k ByteArray.empty ∈ names C := by rw [List.getD_eq_getElem?_getD, List.getElem?_eq_getElem hk]; simp
  have key : ∀ l : List Nodes.D, NodesM.gnB l = true → ∀ x ∈ l, x.name.size ≤ 8 := fun l hl x hx => by
    obtain ⟨i, hi, rfl⟩ := List.getElem_of_mem hx
    have := (Ring.node_bd (Ring.good_at hl hi)).1
    rw [List.getD_eq_getElem?_getD, List.getElem?_eq_getElem hi] at this
    exact this
  rcases List.mem_append.1 ((insAll_mem _ _).1 hm) with h | h
  · obtain ⟨x, hx, e⟩ := List.mem_map.1 h
    rw [← e]; exact key _ h1 x hx
  · obtain ⟨x, hx, e⟩ := List.mem_map.1 h
    rw [← e]
    rcases h2 with h2 | h2
    · rw [h2] at hx; simp at hx
    · exact key _ h2 x hx
theorem gc_stores {C : CC} {L : List Pls.Pl} (hL : C.ps = L.map Pls.core) (h : gcB C = true) : L.length ≤ 16 ∧ ∀ k, k < L.length → gsB (L.getD k Pls.zeroL).lim (L.getD k Pls.zeroL).nx (L.getD k Pls.zeroL).its = true ∧ (L.getD k Pls.zeroL).name.size ≤ 8 := by
  rw [gc_eq, Bool.and_eq_true, Bool.and_eq_true] at h
  obtain ⟨⟨hh, hp⟩, _⟩ := h
  obtain ⟨_, _, _, _, g5, g6⟩ := (head_iff C).1 hh
  have hn := Ring.good_len g5
  have hc8 : C.cs.length ≤ 8 := by
    rcases g6 with e | e
    · rw [e]; simp
    · exact (Ring.good_len e).2
  unfold placesB at hp
  rw [Bool.and_eq_true, decide_eq_true_eq, List.all_eq_true] at hp
  have hlen : C.ps.length = L.length := by rw [hL]; simp
  have h1 := insAll_len (C.ns.map (·.name) ++ C.cs.map (·.name))
  rw [List.length_append, List.length_map, List.length_map] at h1
  have h2 : (names C).length = L.length := hp.1.trans hlen
  have h3 : (names C).length ≤ C.ns.length + C.cs.length := h1
  refine ⟨by omega, fun k hk => ?_⟩
  have hpl := (pl_iff hL).1 (hp.2 k (by simpa [hlen] using hk))
  exact ⟨hpl.2.1, by rw [hpl.1]; exact names_size g5 g6 (by omega)⟩
end Clus
end Go.Proofs.YtpihkjpnaefacaaGreatDoor
/-
  The model's PlacesOf: the names of the places where a key stands and is not old.
-/
namespace Go.Proofs.YtpihkjpnaefacaaGreatDoor
namespace Clus
open Go.RowKit Base GoodKey Items Store Plc Marks
set_option linter.unusedVariables false

/-- How PlacesOf ends. -/
def PoEnd (R : List ByteArray × Bool) (w : World) (e : Ending) (w' : World) : Prop :=
  ∃ a cap, e = .returned (.tuple #[.slice a R.1.length cap, .bool R.2]) ∧ StrN.OwnT w' w.heap.size (.slice a R.1.length cap) R.1 ∧ Below w.heap.size w w'
theorem po_no {R : List ByteArray × Bool} {w w' : World} (h : R = ([], false)) (hb : Below w.heap.size w w') : PoEnd R w (.returned (.tuple #[.slice none 0 0, .bool false])) w' := by
  subst h
  exact ⟨none, 0, rfl, World.ownsRow_nil _ _ _ _, hb⟩
theorem po_yes {R : List ByteArray × Bool} {w w' : World} {a : Option Addr} {n cap : Nat} {l : List ByteArray} (h : R = (l, true)) (hn : l.length = n) (ho : w'.ownsRow w.heap.size 9 1 (.slice a n cap) n (StrN.cells l)) (hb : Below w.heap.size w w') : PoEnd R w (.returned (.tuple #[.slice a n cap, .bool true])) w' := by
  subst h hn
  exact ⟨a, cap, rfl, ho, hb⟩

set_option maxRecDepth 10000 in
set_option maxHeartbeats 4000000 in
theorem po_spec (now nx lim lost : Int) (b1 b2 b3 : Nat) (ns cs : List Nodes.D) (L : List Pls.Pl) (key : ByteArray) (w : World) (hR : CR w b1 b2 b3 ns cs L) (ln : ns.length ≤ 1048576) (fn : ∀ x ∈ ns, Nodes.Fits x) (lc : cs.length ≤ 1048576) (fc : ∀ x ∈ cs, Nodes.Fits x) (lp : L.length ≤ 1048576) (fp : ∀ x ∈ L, Pls.Fits x) (hk : key.size ≤ maxLen)  :
    Calls Tryz.prog 13 #[.agg #[.int .i64 now, .int .i64 nx, .int .i64 lim, .int .i64 lost, .slice (some ⟨b1, 0, none⟩) ns.length ns.length, .slice (some ⟨b2, 0, none⟩) cs.length cs.length, .slice (some ⟨b3, 0, none⟩) L.length L.length], .string key] w (PoEnd (poR ⟨now, nx, lim, lost, ns, cs, L.map Pls.core⟩ key) w) := by
  obtain ⟨C, hC⟩ : ∃ C : CC, C = ⟨now, nx, lim, lost, ns, cs, L.map Pls.core⟩ := ⟨_, rfl⟩
  rw [← hC]
  have hCL : C.ps = L.map Pls.core := by rw [hC]
  have hCN : C.now = now := by rw [hC]
  have hmix : Tryz.prog.follows .mixedOrders = true := by kernel_rfl
  have HMIX := hide hmix
  have HR := hide hR
  have HFP := hide fp
  have HK := hide (fun w' => GoodKey.spec_any key w' hk)
  have HG := hide (fun w' (hb : Below w.heap.size w w') => good_spec now nx lim lost b1 b2 b3 ns cs L w' (hR.below hb (Nat.le_refl _)) ln fn lc fc lp fp)
  rw [← hC] at HG
  obtain ⟨R, hRR⟩ : ∃ R, R = poR C key := ⟨_, rfl⟩
  rw [← hRR]
  cases hg : gcB C
  · have H : Hid (R = ([], false)) := hide (hRR.trans (poR_no (.inl hg)))
    rw [hg] at HG
    clear hg hRR hC hCL hCN hR fn fc fp hmix
    unfold maxLen at hk
    go_enter Tryz.func13, Tryz.ntmps13
    go_wp2_with fail
    refine (unhide HG _ (bel1 w _)).mono ?_
    rintro e w1 ⟨rfl, hb1⟩
    have B1 := hide ((bel1 w _).trans (hb1.mono (by simp)))
    clear hb1
    go_wp2
    go_ret2
    exact po_no (unhide H) (unhide B1)
  rw [hg] at HG
  cases hgk : gk key.data.toList
  · have H : Hid (R = ([], false)) := hide (hRR.trans (poR_no (.inr hgk)))
    rw [hgk] at HK
    clear hg hgk hRR hC hCL hCN hR fn fc fp hmix
    unfold maxLen at hk
    go_enter Tryz.func13, Tryz.ntmps13
    go_wp2_with fail
    refine (unhide HG _ (bel1 w _)).mono ?_
    rintro e w1 ⟨rfl, hb1⟩
    have B1 := hide ((bel1 w _).trans (hb1.mono (by simp)))
    simp only [World.size_alloc] at hb1
    have hx1 := boxcell hb1
    clear hb1
    go_wp2_with fail
    refine (unhide HK _).mono ?_
    rintro e w2 ⟨rfl, h2⟩
    rw [h2]; clear h2 w2
    go_wp2
    go_ret2
    exact po_no (unhide H) (unhide B1)
  rw [hgk] at HK
  have HRY : Hid (R = (poN L now key L.length, true)) := hide (hRR.trans (by rw [poR_yes hCL hg hgk, hCN]))
  obtain ⟨l16, hgs⟩ := gc_stores hCL hg
  have HGS := hide hgs
  obtain ⟨i0, hi, hz0, hz1, hz2⟩ := StrN.info_ex
  have HI := hide hi
  have HZ0 := hide hz0
  have HZ1 := hide hz1
  have HZ2 := hide hz2
  have HKS := hide hk
  clear hg hgk hRR hC hCL hCN hR fn fc fp hmix hgs hi hz0 hz1 hz2
  unfold maxLen at hk
  go_enter Tryz.func13, Tryz.ntmps13
  go_wp2_with fail
  refine (unhide HG _ (bel1 w _)).mono ?_
  rintro e w1 ⟨rfl, hb1⟩
  simp only [World.size_alloc] at hb1
  have X1 := hide hb1
  have hz1 : w.heap.size + 1 ≤ w1.heap.size := by have := hb1.size; simp at this; omega
  have B1 := hide ((bel1 w _).trans (hb1.mono (by omega)))
  have hx1 := boxcell hb1
  clear hb1
  go_wp2_with fail
  refine (unhide HK _).mono ?_
  rintro e w2 ⟨rfl, h2⟩
  rw [h2]; clear h2 w2
  go_wp2_with fail
  clear hx1
  go_loopw [6, 21] (fun nv iv wr => ∃ (k n : Nat) (oa : Option Addr) (oc : Nat), k ≤ L.length ∧ iv = .int .i64 (k : Int) ∧ nv = .slice oa n oc ∧ n ≤ k ∧ Hid (n = (poN L now key k).length) ∧ Hid (wr.ownsRow w1.heap.size 9 1 (.slice oa n oc) n (StrN.cells (poN L now key k))) ∧ Hid (Below w1.heap.size w1 wr)) (fun _ iv _ => L.length - (intOf iv).toNat)
  case atStart => exact ⟨0, 0, none, 0, Nat.zero_le _, rfl, rfl, Nat.le_refl _, hide rfl, hide (World.ownsRow_nil _ _ _ _), hide (Below.refl _ _)⟩
  case round =>
    obtain ⟨k, n, oa, oc, hkk, rfl, rfl, hnk, hn, how, hbk⟩ := hrel
    obtain ⟨wk, hname⟩ : ∃ v, v = wr := ⟨_, rfl⟩
    subst hname
    have hzk := (unhide hbk).size
    have BK := hide ((unhide B1).trans ((unhide hbk).mono (unhide B1).size))
    by_cases hlt : k < L.length
    case neg =>
      obtain rfl : k = L.length := by omega
      have HO := hide (OwnR.own_le (unhide how) (unhide B1).size)
      have HNN : Hid ((poN L now key L.length).length = n) := hide (unhide hn).symm
      clear how hn
      go_wp2
      go_ret2
      exact po_yes (unhide HRY) (unhide HNN) (unhide HO) (unhide BK)
    obtain ⟨c0, c1', c2', c3⟩ := Pls.lcell_at ((unhide HR).below (unhide BK) (Nat.le_refl _)).p.row k hlt
    rw [Nat.zero_add] at c0 c1' c2' c3
    have HSTR := hide (fun w' (hb : Below w.heap.size w w') => ((unhide HR).below hb (Nat.le_refl _)).p.str k hlt)
    have HFK := hide (unhide HFP _ (Pls.getD_mem hlt))
    have HGK := hide (unhide HGS k hlt).1
    have hnm8 := (unhide HGS k hlt).2
    have HST := hide (poN_succ (now := now) (key := key) hlt)
    generalize L.getD k Pls.zeroL = x at c0 c1' c2' c3 HSTR HFK HGK HST hnm8
    have ha := (unhide HSTR w (Below.refl _ _)).1
    have hca := (unhide HSTR w (Below.refl _ _)).2.2
    rw [ha, hca] at c3
    have hil := (gs_item (unhide HGK)).1
    have hAT := fun w' (hb : Below w.heap.size w w') => l2At_some x.lim x.nx (Pls.blk x) 0 x.its.length x.its key w' (unhide HSTR w' hb).lt (Items.at_row (unhide HSTR w' hb).2.1) (unhide HFK).2.2.1
    have HAT := hide hAT
    clear hAT
    have HST : Hid (poN L now key (k + 1) = if modB now key x.its then poN L now key k ++ [x.name] else poN L now key k) := hide (by rw [mod_eq (unhide HGK)]; exact unhide HST)
    clear ha hca
    generalize hgi : Pls.blk x = gi at c3 HAT
    have HBK := hide hgi
    clear hgi
    go_wp2_with fail
    have q0 : (wk.alloc (.cells #[.string x.name, .int .i64 x.lim, .int .i64 x.nx, .slice (some ⟨gi, 0, none⟩) x.its.length x.its.length] 61)).cell? ⟨wk.heap.size, 0, none⟩ = some (.string x.name) := by rw [World.cell?_alloc_new]; rfl
    have q3 : (wk.alloc (.cells #[.string x.name, .int .i64 x.lim, .int .i64 x.nx, .slice (some ⟨gi, 0, none⟩) x.its.length x.its.length] 61)).cell? ⟨wk.heap.size, 3, none⟩ = some (.slice (some ⟨gi, 0, none⟩) x.its.length x.its.length) := by rw [World.cell?_alloc_new]; rfl
    have BW := hide ((unhide BK).alloc (unhide BK).size (.cells #[.string x.name, .int .i64 x.lim, .int .i64 x.nx, .slice (some ⟨gi, 0, none⟩) x.its.length x.its.length] 61))
    have YW := hide ((unhide hbk).alloc hzk (.cells #[.string x.name, .int .i64 x.lim, .int .i64 x.nx, .slice (some ⟨gi, 0, none⟩) x.its.length x.its.length] 61))
    have OW := hide ((unhide how).alloc (.cells #[.string x.name, .int .i64 x.lim, .int .i64 x.nx, .slice (some ⟨gi, 0, none⟩) x.its.length x.its.length] 61))
    have hzW : wk.heap.size < (wk.alloc (.cells #[.string x.name, .int .i64 x.lim, .int .i64 x.nx, .slice (some ⟨gi, 0, none⟩) x.its.length x.its.length] 61)).heap.size := by simp
    generalize wk.alloc (.cells #[.string x.name, .int .i64 x.lim, .int .i64 x.nx, .slice (some ⟨gi, 0, none⟩) x.its.length x.its.length] 61) = W at q0 q3 BW YW OW hzW ⊢
    clear c0 c1' c2' c3 how hbk BK
    generalize wk.heap.size = pb at q0 q3 hzW hzk ⊢
    have P0 := hide q0
    have P3 := hide q3
    clear q0 q3
    refine (unhide HAT _ (unhide BW)).mono ?_
    rintro e w5 ⟨rfl, hb5⟩
    have B5 := hide ((unhide BW).trans (hb5.mono (unhide BW).size))
    have Y5 := hide ((unhide YW).trans (hb5.mono (unhide YW).size))
    have O5 := hide (OwnR.own_below (unhide OW) hb5 (Nat.le_refl _))
    have p0 : w5.cell? ⟨pb, 0, none⟩ = some (.string x.name) := (hb5.cell (p := ⟨pb, 0, none⟩) hzW).trans (unhide P0)
    have p3 : w5.cell? ⟨pb, 3, none⟩ = some (.slice (some ⟨gi, 0, none⟩) x.its.length x.its.length) := (hb5.cell (p := ⟨pb, 3, none⟩) hzW).trans (unhide P3)
    have hz5 : pb < w5.heap.size := Nat.lt_of_lt_of_le hzW hb5.size
    have X5 : Hid (Below (w.heap.size + 1) (w.alloc (.cells #[.int .i64 now, .int .i64 nx, .int .i64 lim, .int .i64 lost, .slice (some ⟨b1, 0, none⟩) ns.length ns.length, .slice (some ⟨b2, 0, none⟩) cs.length cs.length, .slice (some ⟨b3, 0, none⟩) L.length L.length] 31)) w5) := (unhide X1).trans ((unhide Y5).mono hz1)
    have t0 : w5.cell? ⟨w.heap.size, 0, none⟩ = some (.int .i64 now) := (boxcell (unhide X5) 0).trans (by rw [World.cell?_alloc_new]; rfl)
    clear hb5 BW YW OW P0 P3
    cases hat : atN x.its key with
    | none =>
      have HA : Hid (atI x.its key = -1) := hide (by unfold atI; rw [hat])
      have HS2 : Hid (poN L now key (k + 1) = poN L now key k) := hide (by rw [unhide HST]; unfold modB; rw [hat]; rfl)
      rw [unhide HA]
      clear hat HST
      go_wp2_with fail
      have q0 := cell_regrown p0
      refine wp_region_quiet_below (unhide HMIX) (by kernel_rfl) ?_
      repeat (go_big_quiet_step (fail))
      refine wpQuiet_nil ?_
      intro _ hw'
      obtain ⟨⟨dq, osq⟩, hw''⟩ := hw'
      subst hw''
      have hbq := below_regrown w5 dq osq
      have YQ := hide ((unhide Y5).trans (hbq.mono (unhide Y5).size))
      have OQ := hide (OwnR.own_below (unhide O5) hbq (Nat.le_refl _))
      clear q0 hbq p0 p3 t0
      generalize (Go.Sort.grow (redrawn w5 dq) osq) = v at YQ OQ ⊢
      rw [← unhide HS2] at OQ hn
      go_wp2
      go_roundw
      case rel => exact ⟨k + 1, n, oa, oc, by omega, by go_num, rfl, by omega, hn, OQ, YQ⟩
      case measure => simp [intOf]; omega
    | some a =>
      have hal := atN_lt hat
      have HA : Hid (atI x.its key = (a : Int)) := hide (by unfold atI; rw [hat])
      have HS2 : Hid (poN L now key (k + 1) = if (!oldB (x.its.getD a zero) now) = true then poN L now key k ++ [x.name] else poN L now key k) := hide (by rw [unhide HST]; unfold modB; rw [hat])
      obtain ⟨e0, e1, e2, e3, e4⟩ := Items.at_row (unhide HSTR w5 (unhide B5)).2.1 a hal
      rw [Nat.zero_add, unhide HBK] at e0 e1 e2 e3 e4
      rw [unhide HA]
      clear hat HST
      have hOL := fun w' => l2Old_any (x.its.getD a zero) now w'
      generalize x.its.getD a zero = it at e0 e1 e2 e3 e4 HS2 hOL
      generalize oldB it now = ob at HS2 hOL
      have HOL := hide hOL
      clear hOL
      go_wp2_with fail
      have cC := fun d os => Calls.regrown_of (unhide HOL (Go.Sort.grow (redrawn w5 d) os))
      have Q0 := hide p0
      have p3 := cell_regrown p3
      have t0 := cell_regrown t0
      have e0 := cell_regrown e0
      have e1 := cell_regrown e1
      have e2 := cell_regrown e2
      have e3 := cell_regrown e3
      have e4 := cell_regrown e4
      have ha0 : (0 : Int) ≤ (a : Int) := by omega
      have ha1 : decide ((0 : Int) ≤ (a : Int)) = true := by simp
      cases ob
      all_goals
        refine wp_region_quiet_below (unhide HMIX) (by kernel_rfl) ?_
        repeat (go_big_quiet_step (exact cC _ _))
        refine wpQuiet_nil ?_
        intro _ hw'
        obtain ⟨⟨dq, osq⟩, hw''⟩ := hw'
        subst hw''
        have hbq := below_regrown w5 dq osq
        have YQ := hide ((unhide Y5).trans (hbq.mono (unhide Y5).size))
        have OQ := hide (OwnR.own_below (unhide O5) hbq (Nat.le_refl _))
        have p0 : (Go.Sort.grow (redrawn w5 dq) osq).cell? ⟨pb, 0, none⟩ = some (.string x.name) := (hbq.cell (p := ⟨pb, 0, none⟩) hz5).trans (unhide Q0)
        clear hbq p3 t0 e0 e1 e2 e3 e4 cC
        generalize (Go.Sort.grow (redrawn w5 dq) osq) = v at YQ OQ p0 ⊢
      · have HS3 : Hid (poN L now key (k + 1) = poN L now key k ++ [x.name]) := unhide HS2
        have hvz := (unhide YQ).size
        have HNN : Hid (n + 1 = (poN L now key (k + 1)).length) := hide (by rw [unhide HS3, List.length_append, ← unhide hn]; rfl)
        go_wp2_with (at_builtin; go_loud (refine wpList_append_own _ rfl _ _ 35 rfl w1.heap.size 9 i0 _ 1 16 Tryz.underlying35 (unhide HI) (unhide HZ0) (unhide HZ1) (unhide HZ2) rfl (by decide) _ _ _ rfl ((unhide OQ).alloc _) ⟨v.heap.size, 0, none⟩ 1 1 [.string x.name] rfl rfl (StrN.news_cells v x.name _) (StrN.news_one x.name) ?c3 ?c4 ?c5 ?_))
        case c3 => unfold maxLen; omega
        case c4 => omega
        case c5 => first | omega | (simp; omega)
        intro v' we hown' hgrow _
        obtain ⟨a5, c5, rfl⟩ := OwnR.own_form hown'
        have O4 : Hid (we.ownsRow w1.heap.size 9 1 (.slice a5 (n + 1) c5) (n + 1) (StrN.cells (poN L now key (k + 1)))) := by
          rw [unhide HS3]
          have : StrN.cells (poN L now key k ++ [x.name]) = StrN.cells (poN L now key k) ++ [.string x.name] := by simp [StrN.cells]
          rw [this]
          exact hown'
        have C4 := hide (((unhide YQ).alloc hvz _).grown hgrow (by simp; omega) (OwnR.own_block (unhide OQ)))
        clear hown' hgrow OQ
        go_wp2
        go_roundw
        case rel => exact ⟨k + 1, n + 1, a5, c5, by omega, by go_num, rfl, by omega, HNN, O4, C4⟩
        case measure => simp [intOf]; omega
      · have HS3 : Hid (poN L now key (k + 1) = poN L now key k) := unhide HS2
        rw [← unhide HS3] at OQ hn
        go_wp2
        go_roundw
        case rel => exact ⟨k + 1, n, oa, oc, by omega, by go_num, rfl, by omega, hn, OQ, YQ⟩
        case measure => simp [intOf]; omega
end Clus
end Go.Proofs.YtpihkjpnaefacaaGreatDoor
