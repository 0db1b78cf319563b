/-
  The model's l7First and l7Move on a cluster whose keys move, by plain states.
-/
import Derived.Test.YtjgfedmgmfpapaaGreatDoorZ31
import Derived.Test.YtjgfedmgmfpapaaGreatDoorZ26
import Derived.Test.YtjgfedmgmfpapaaGreatDoorMoveS
import Derived.Test.YtjgfedmgmfpapaaGreatDoorZ27
import Derived.Test.YtjgfedmgmfpapaaGreatDoorZ3
import Derived.Test.YtjgfedmgmfpapaaGreatDoorRows
namespace Go.Proofs.YtjgfedmgmfpapaaGreatDoor
namespace Mv
open Go.RowKit Base Store Items OwnR Keep Clus Marks Plc Fleet
set_option linter.unusedVariables false

theorem atC_names {s t : List Pls.Core} (h : s.map (·.name) = t.map (·.name)) (z : ByteArray) : atC s z = atC t z := by
  have e : ∀ l : List Pls.Core, atC l z = (l.map (·.name)).findIdx? (fun n => n.toList == z.toList) := fun l => by unfold atC; rw [List.findIdx?_map]; rfl
  rw [e, e, h]
theorem core_at' {N : List Pls.Pl} {i : Nat} (hi : i < N.length) : (N.map Pls.core).getD i Pls.zeroC = Pls.core (N.getD i Pls.zeroL) := by
  simp [List.getD_eq_getElem?_getD, List.getElem?_map, List.getElem?_eq_getElem hi]
theorem names_core (N : List Pls.Pl) : (N.map Pls.core).map (·.name) = N.map (·.name) := by rw [List.map_map]; rfl
/-- Where a key's owners stand. -/
theorem Inv.owners {C : CC} {N : List Pls.Pl} (h : Inv C (N.map Pls.core)) (hg : gcB C = true) (hc : C.cs ≠ []) (key : ByteArray) : plN N (own C.ns key) = some (kOf (own C.ns key) ((N.map Pls.core).map (·.name))) ∧ plN N (own C.cs key) = some (kOf (own C.cs key) ((N.map Pls.core).map (·.name))) := by
  obtain ⟨⟨j, hj⟩, h2⟩ := gc_owner hg key
  obtain ⟨k, hk⟩ := h2 hc
  have hr := gc_rising hg
  obtain ⟨a1, a2⟩ := at_some hj
  obtain ⟨b1, b2⟩ := at_some hk
  rw [plN_core, plN_core, atC_names h.nm, atC_names h.nm, hj, hk, h.nm, kOf_is hr (by simpa using a1) a2, kOf_is hr (by simpa using b1) b2]
  exact ⟨rfl, rfl⟩
/-- What l7First finds. -/
theorem first_is {C : CC} {N : List Pls.Pl} {R : ByteArray} (h : Inv C (N.map Pls.core)) (hg : gcB C = true) (hc : C.cs ≠ []) (hF : FirstIs C.ns C.cs N R) :
    ((R.toList == []) = true ∧ noneB C.cs (N.map Pls.core) = true) ∨ ((R.toList == []) = false ∧ ∃ i r k, i < N.length ∧ At1 C (N.map Pls.core) i R r k) := by
  have hr : Rising ((N.map (·.name)).map toL) := by rw [← names_core]; exact h.ris hg
  have hcl : C.cs.length ≠ 0 := fun e => hc (List.eq_nil_of_length_eq_zero e)
  have hgo : ∀ i q, i < N.length → q < (N.getD i Pls.zeroL).its.length → goB C.ns C.cs N i q = leftB C.cs (N.getD i Pls.zeroL).name ((N.getD i Pls.zeroL).its.getD q zero) := by
    intro i q hi hq
    obtain ⟨o1, o2⟩ := h.owners hg hc ((N.getD i Pls.zeroL).its.getD q zero).key
    have hm := h.hm _ (gM (show i < (N.map Pls.core).length by simpa using hi)) ((N.getD i Pls.zeroL).its.getD q zero) (by rw [core_at' hi]; exact iM hq)
    rw [core_at' hi] at hm
    exact go_iff hcl hr hi hq o1 o2 hm
  have hno : ∀ i, i < N.length → (∀ q, q < (N.getD i Pls.zeroL).its.length → goB C.ns C.cs N i q = false) → hasB C.cs ((N.map Pls.core).getD i Pls.zeroC) = false := by
    intro i hi hq
    rw [core_at' hi]
    unfold hasB
    rw [List.any_eq_false]
    intro y hy
    obtain ⟨q, hq', rfl⟩ := List.getElem_of_mem hy
    have hq2 : q < (N.getD i Pls.zeroL).its.length := hq'
    have h1 := hq q hq2
    rw [hgo i q hi hq2, iD hq2] at h1
    show ¬ leftB C.cs (N.getD i Pls.zeroL).name (N.getD i Pls.zeroL).its[q] = true
    rw [h1]
    simp
  rcases hF with ⟨i, q, hi, hq, hn, hgt, rfl⟩ | ⟨hn, rfl⟩
  · right
    have hi' : i < (N.map Pls.core).length := by simpa using hi
    have hbe : ∀ a, a < i → hasB C.cs ((N.map Pls.core).getD a Pls.zeroC) = false := fun a ha => hno a (by omega) (fun q hq => hn.1 a ha q hq)
    have hlx := hgt
    rw [hgo i q hi hq] at hlx
    have hfr : fR C.cs ((N.map Pls.core).getD i Pls.zeroC) = q := by
      rw [core_at' hi]
      refine fR_is hq hlx (fun j hj => ?_)
      have := hn.2 j hj
      rw [hgo i j hi (by omega)] at this
      exact this
    have hhas : hasB C.cs ((N.map Pls.core).getD i Pls.zeroC) = true := by
      rw [core_at' hi]
      unfold hasB
      rw [List.any_eq_true]
      exact ⟨_, iM hq, hlx⟩
    have hlk := lk_cons hhas
    rw [hfr, core_at' hi] at hlk
    have e1 : (Pls.core (N.getD i Pls.zeroL)).its.getD q zero = (N.getD i Pls.zeroL).its.getD q zero := rfl
    rw [e1, ← core_at' hi] at hlk
    obtain ⟨r, k, a, -⟩ := first_at h hg hc hi' hbe hlk
    have h1 := (h.it _ (gM hi') ((N.getD i Pls.zeroL).its.getD q zero) (by rw [core_at' hi]; exact iM hq)).1
    refine ⟨?_, i, r, k, hi, a⟩
    have h2 := name_eq ((N.getD i Pls.zeroL).its.getD q zero).key ByteArray.empty
    rw [decide_eq_false (fun h => by rw [h] at h1; simp at h1), empty_list] at h2
    exact h2
  · left
    refine ⟨by rw [empty_list]; rfl, none_iff.2 (fun i hi => ?_)⟩
    have hi' : i < N.length := by simpa using hi
    exact hno i hi' (fun q hq => hn.1 i hi' q hq)

theorem first_c (C : CC) (L : Int) (a1 : Option Addr) (c1 : Nat) (a2 : Option Addr) (c2 g c3 : Nat) (N : List Pls.Pl) (B : Nat) (u : World) (h : Inv C (N.map Pls.core)) (hg : gcB C = true) (hc : C.cs ≠ []) (hco : CO u B ⟨C.now, C.nx, C.lim, L, a1, c1, C.ns, a2, c2, C.cs, some ⟨g, 0, none⟩, c3, N⟩) (hgl : g < u.heap.size) (hl : N.length ≤ 16) :
    Calls Tryz.prog 55 #[.agg #[.int .i64 C.now, .int .i64 C.nx, .int .i64 C.lim, .int .i64 L, .slice a1 C.ns.length c1, .slice a2 C.cs.length c2, .slice (some ⟨g, 0, none⟩) N.length c3]] u fun e u' => ∃ R, e = .returned (.string R) ∧ (((R.toList == []) = true ∧ noneB C.cs (N.map Pls.core) = true) ∨ ((R.toList == []) = false ∧ ∃ i r k, i < N.length ∧ At1 C (N.map Pls.core) i R r k)) ∧ Below u.heap.size u u' := by
  obtain ⟨-, -, d3, d4⟩ := gc_head' hg
  refine (first_spec C.now C.nx C.lim L a1 c1 C.ns a2 c2 C.cs g c3 N u hco.at.1 hco.at.2.1 (fun i hi => hco.p.pl i hi) (fun i hi => ⟨Own.own_at (hco.p.its _ (Pls.getD_mem hi)), ?_⟩) hgl (by omega) d3 d4 (fun i hi y hy => ?_)).mono ?_
  · have := (h.pl _ (gM (show i < (N.map Pls.core).length by simpa using hi))).2.1
    rw [core_at' hi] at this
    have e : (Pls.core (N.getD i Pls.zeroL)).its = (N.getD i Pls.zeroL).its := rfl
    rw [e] at this
    omega
  · obtain ⟨o1, o2⟩ := h.owners hg hc y.key
    have := h.it _ (gM (show i < (N.map Pls.core).length by simpa using hi)) y (by rw [core_at' hi]; exact hy)
    exact ⟨by unfold maxLen; omega, ⟨_, o1⟩, fun _ => ⟨_, o2⟩⟩
  · rintro e u' ⟨R, rfl, hF, hb⟩
    exact ⟨R, rfl, first_is h hg hc hF, hb⟩

theorem set_names {N : List Pls.Pl} {i : Nat} {y : Pls.Pl} (hi : i < N.length) (hy : y.name = (N.getD i Pls.zeroL).name) : ((N.set i y).map Pls.core).map (·.name) = (N.map Pls.core).map (·.name) := by
  rw [names_core, names_core, List.map_set]
  have e : y.name = (N.map (·.name))[i]'(by simpa using hi) := by rw [List.getElem_map, hy]; simp [hi]
  rw [e, List.set_getElem_self]
theorem move_c2 (C : CC) (L : Int) (a1 : Option Addr) (c1 : Nat) (a2 : Option Addr) (c2 g c3 : Nat) (N : List Pls.Pl) (B : Nat) (u : World) (key : ByteArray) (i r k : Nat) (h : Inv C (N.map Pls.core)) (hg : gcB C = true) (hc : C.cs ≠ []) (hco : CO u B ⟨C.now, C.nx, C.lim, L, a1, c1, C.ns, a2, c2, C.cs, some ⟨g, 0, none⟩, c3, N⟩) (hgl : g < u.heap.size) (hB : B ≤ u.heap.size) (hl : N.length ≤ 16) (hlo : 0 ≤ L ∧ L ≤ 1000000) (hi : i < N.length) (a : At1 C (N.map Pls.core) i key r k) :
    Calls Tryz.prog 56 #[.agg #[.int .i64 C.now, .int .i64 C.nx, .int .i64 C.lim, .int .i64 L, .slice a1 C.ns.length c1, .slice a2 C.cs.length c2, .slice (some ⟨g, 0, none⟩) N.length c3], .string key] u (MoEnd C.now C.nx C.lim L a1 c1 C.ns a2 c2 C.cs g c3 N B i r k u) := by
  obtain ⟨-, -, d3, d4⟩ := gc_head' hg
  have hcl : C.cs.length ≠ 0 := fun e => hc (List.eq_nil_of_length_eq_zero e)
  have hi' : i < (N.map Pls.core).length := by simpa using hi
  have hk' : k < N.length := by have := a.kl; simpa using this
  have ei := core_at' hi
  have hrl := a.rl
  have han := a.an
  have hkr := a.kr
  rw [ei] at hrl han hkr
  have han' : atN (N.getD i Pls.zeroL).its key = some r := han
  have hat : atI (N.getD i Pls.zeroL).its key = (r : Int) := by unfold atI; rw [han']
  obtain ⟨o1, o2⟩ := h.owners hg hc key
  rw [a.fm] at o1
  rw [a.tk] at o2
  have hx := h.it _ (gM hi') ((N.getD i Pls.zeroL).its.getD r zero) (by rw [ei]; exact iM hrl)
  have hkey : key.size ≤ 30 := by have e : (N.getD i Pls.zeroL).its.getD r zero = (Pls.core (N.getD i Pls.zeroL)).its.getD r zero := rfl; rw [e, hkr] at hx; exact hx.2.1
  have hh := hg
  rw [gc_eq, Bool.and_eq_true, Bool.and_eq_true] at hh
  obtain ⟨-, hnx, hlim, -, -, -⟩ := (head_iff C).1 hh.1.1
  simp only [GoodKey.inB, Bool.and_eq_true, decide_eq_true_eq] at hnx hlim
  have hall : ∀ x ∈ N, x.its.length ≤ 60 ∧ (∀ y ∈ x.its, Store.Small y) ∧ 0 ≤ x.lim ∧ x.lim ≤ 10000 := fun x hx => by
    have hm : Pls.core x ∈ N.map Pls.core := List.mem_map_of_mem hx
    have h1 := h.pl _ hm
    have e1 : (Pls.core x).lim = x.lim := rfl
    rw [e1] at h1
    exact ⟨h1.2.1, fun y hy => (h.it _ hm y hy).2.2.1, by omega, by omega⟩
  refine move_spec C.now C.nx C.lim L a1 c1 C.ns a2 c2 C.cs g c3 N B key i r k u hB hgl hco hlo (by omega) hi hk' a.ne hrl hall hat (by omega) (fun v hv hgv => ?_) (fun v y hy hv hgv => ?_)
  · have hm := moves_spec C.now C.nx C.lim L a1 c1 C.ns a2 c2 C.cs g c3 N key i k v hv.at.1 hv.at.2.1 (fun i hi => hv.p.pl i hi) (fun i hi => ⟨Own.own_at (hv.p.its _ (Pls.getD_mem hi)), by have := (hall _ (Pls.getD_mem hi)).1; omega⟩) hgv (by omega) d3 d4 (by unfold maxLen; omega) o1 (fun _ => o2)
    rw [mv_far hcl a.ne, hat, decide_eq_true (show (0 : Int) ≤ (r : Int) by omega)] at hm
    exact hm
  · have hN : (N.set i y).length = N.length := List.length_set
    have ho := owner_spec C.now C.nx C.lim L a1 c1 C.ns a2 c2 C.cs g c3 (N.set i y) key v hv.at.1 hv.at.2.1 (fun i hi => hv.p.pl i hi) hgv (by omega) d3 d4 (by unfold maxLen; omega)
    have e1 : plN (N.set i y) (own C.cs key) = some k := by
      rw [plN_core, atC_names (set_names hi hy), ← plN_core]; exact o2
    have e2 : plI (N.set i y) (toward C.ns C.cs key) = (k : Int) := by
      unfold toward plI
      rw [if_neg hcl, e1]
    rw [hN, e2] at ho
    exact ho
/-- What a move makes of the places. -/
theorem move_core {C : CC} {N : List Pls.Pl} {i r k : Nat} {y1 y2 : Pls.Pl} (hi : i < N.length) (hk : k < N.length)
    (h1 : Pls.core y1 = ⟨(N.getD i Pls.zeroL).name, (N.getD i Pls.zeroL).lim, (N.getD i Pls.zeroL).nx, (N.getD i Pls.zeroL).its.eraseIdx r⟩)
    (h2 : Pls.core y2 = ⟨(N.getD k Pls.zeroL).name, (N.getD k Pls.zeroL).lim, max (N.getD k Pls.zeroL).nx (((N.getD i Pls.zeroL).its.getD r Items.zero).token + 1), ((N.getD k Pls.zeroL).its ++ [(N.getD i Pls.zeroL).its.getD r Items.zero]).drop (trimN (N.getD k Pls.zeroL).lim ((N.getD k Pls.zeroL).its ++ [(N.getD i Pls.zeroL).its.getD r Items.zero]))⟩) :
    ((N.set i y1).set k y2).map Pls.core = mvAt (N.map Pls.core) i r k ∧ lostAt (N.map Pls.core) i r k = trimN (N.getD k Pls.zeroL).lim ((N.getD k Pls.zeroL).its ++ [(N.getD i Pls.zeroL).its.getD r Items.zero]) := by
  unfold mvAt lostAt
  rw [List.map_set, List.map_set, h1, h2, core_at' hi, core_at' hk]
  exact ⟨rfl, rfl⟩
end Mv
end Go.Proofs.YtjgfedmgmfpapaaGreatDoor
/-
  The model's l7Copy: keys move one by one, the first one first.
-/
namespace Go.Proofs.YtjgfedmgmfpapaaGreatDoor
namespace Mv
open Go.RowKit Base Store Items OwnR Keep Clus Marks Plc
set_option linter.unusedVariables false

/-- How l7Copy ends. -/
def CpEnd (C : CC) (a1 : Option Addr) (c1 : Nat) (a2 : Option Addr) (c2 g c3 n : Nat) (many B : Nat) (w : World) (e : Ending) (w' : World) : Prop :=
  ∃ (m : Nat) (N : List Pls.Pl) (L : Int), e = .returned (.tuple #[.agg #[.int .i64 C.now, .int .i64 C.nx, .int .i64 C.lim, .int .i64 L, .slice a1 C.ns.length c1, .slice a2 C.cs.length c2, .slice (some ⟨g, 0, none⟩) n c3], .int .i64 (m : Int)]) ∧ N.length = n ∧
    N.map Pls.core = (mvN C.cs m (C.ps.map (dropC C.now), 0)).1 ∧ L = min (C.lost + ((mvN C.cs m (C.ps.map (dropC C.now), 0)).2 : Nat)) 1000000 ∧ m ≤ many ∧ (∀ j, j < m → noneB C.cs (mvN C.cs j (C.ps.map (dropC C.now), 0)).1 = false) ∧ (m = many ∨ noneB C.cs (mvN C.cs m (C.ps.map (dropC C.now), 0)).1 = true) ∧
    CO w' B ⟨C.now, C.nx, C.lim, L, a1, c1, C.ns, a2, c2, C.cs, some ⟨g, 0, none⟩, c3, N⟩ ∧ Below B w w' ∧ w.heap.size ≤ w'.heap.size

set_option maxRecDepth 10000 in
set_option maxHeartbeats 4000000 in
theorem copy_spec (C : CC) (a1 : Option Addr) (c1 : Nat) (a2 : Option Addr) (c2 g c3 : Nat) (M : List Pls.Pl) (B many : Nat) (w : World) (hg : gcB C = true) (hc : C.cs ≠ []) (hM : M.map Pls.core = C.ps) (hB : B ≤ w.heap.size) (hco : CO w B ⟨C.now, C.nx, C.lim, C.lost, a1, c1, C.ns, a2, c2, C.cs, some ⟨g, 0, none⟩, c3, M⟩) (hgl : g < w.heap.size) (hl : M.length ≤ 16) (hm : many ≤ 100) :
    Calls Tryz.prog 22 #[.agg #[.int .i64 C.now, .int .i64 C.nx, .int .i64 C.lim, .int .i64 C.lost, .slice a1 C.ns.length c1, .slice a2 C.cs.length c2, .slice (some ⟨g, 0, none⟩) M.length c3], .int .i64 (many : Int)] w (CpEnd C a1 c1 a2 c2 g c3 M.length many B w) := by
  obtain ⟨d1, d2, -, -⟩ := Fleet.gc_head' hg
  have h0 := inv_start hg
  have hh := hg
  rw [gc_eq, Bool.and_eq_true, Bool.and_eq_true] at hh
  obtain ⟨-, -, hlim, -, -, -⟩ := (head_iff C).1 hh.1.1
  simp only [GoodKey.inB, Bool.and_eq_true, decide_eq_true_eq] at hlim
  have hinv : ∀ m, (∀ j, j < m → noneB C.cs (mvN C.cs j (C.ps.map (dropC C.now), 0)).1 = false) → Inv C (mvN C.cs m (C.ps.map (dropC C.now), 0)).1 := fun m hj => inv_n (t := (C.ps.map (dropC C.now), 0)) h0 hg hlim.1 hc m hj
  have hli : ∀ x ∈ M, x.its.length ≤ 1000 := fun x hx => by
    obtain ⟨i, hi, rfl⟩ := List.getElem_of_mem hx
    have hi2 : i < C.ps.length := by rw [← hM]; simpa using hi
    have h1 := (gs_all (gc_place hg hi2).2.2).1
    rw [← hM, core_at' hi] at h1
    have e : (Pls.core (M.getD i Pls.zeroL)).its.length = M[i].its.length := by simp [hi]; rfl
    rw [e] at h1
    omega
  have hs0 : M.map (fun x => dropC C.now (Pls.core x)) = C.ps.map (dropC C.now) := by rw [← hM, List.map_map]; rfl
  obtain ⟨W, hW⟩ : ∃ W, W = (w.alloc (.cells #[.int .i64 C.now, .int .i64 C.nx, .int .i64 C.lim, .int .i64 C.lost, .slice a1 C.ns.length c1, .slice a2 C.cs.length c2, .slice (some ⟨g, 0, none⟩) M.length c3] 30)).alloc (.cells #[.int .i64 0, .int .i64 0, .int .i64 0, .int .i64 0, .slice none 0 0, .slice none 0 0, .slice none 0 0] 30) := ⟨_, rfl⟩
  have BW0 : Below w.heap.size w W := by rw [hW]; exact bel2 w _ _
  have MSW : Hid (MS w B g ⟨C.now, C.nx, C.lim, C.lost, a1, c1, C.ns, a2, c2, C.cs, some ⟨g, 0, none⟩, c3, M⟩ W) := by
    refine ⟨hco.below BW0 (Nat.le_refl _), ?_, ?_, BW0.mono hB, Clus.Kp.of BW0, by rw [hW]; simp, rfl, hgl, hB⟩
    · rw [hW]; exact ((bel1 (w.alloc _) _).block w.heap.size (by simp)).trans (heap_alloc_new w _)
    · rw [hW]
      have := heap_alloc_new (w.alloc (.cells #[.int .i64 C.now, .int .i64 C.nx, .int .i64 C.lim, .int .i64 C.lost, .slice a1 C.ns.length c1, .slice a2 C.cs.length c2, .slice (some ⟨g, 0, none⟩) M.length c3] 30)) (.cells #[.int .i64 0, .int .i64 0, .int .i64 0, .int .i64 0, .slice none 0 0, .slice none 0 0, .slice none 0 0] 30)
      rw [World.size_alloc] at this
      exact this
  have HOLD := hide (fun u (hu : CO u B ⟨C.now, C.nx, C.lim, C.lost, a1, c1, C.ns, a2, c2, C.cs, some ⟨g, 0, none⟩, c3, M⟩) (hgu : g < u.heap.size) (hBu : B ≤ u.heap.size) => old_spec C.now C.nx C.lim C.lost a1 c1 C.ns a2 c2 C.cs g c3 M B u hBu hu (by omega) hli hgu)
  have HFI := hide (fun L N u h hco hgu hlN => first_c C L a1 c1 a2 c2 g c3 N B u h hg hc hco hgu hlN)
  have HMO := hide (fun L N u key i r k h hco hgu hBu hlN hlo hi a => move_c2 C L a1 c1 a2 c2 g c3 N B u key i r k h hg hc hco hgu hBu hlN hlo hi a)
  have HINV := hide hinv
  have HS0 := hide hs0
  have HLO := hide (And.intro d1 d2)
  have HW := hide hW
  have hBg : B ≤ g := by
    have := hco.p.row
    exact (this.lt g rfl).1
  obtain ⟨s0, hs0e⟩ : ∃ s, s = C.ps.map (dropC C.now) := ⟨_, rfl⟩
  have HSE := hide hs0e
  generalize hML : M.length = n at *
  have HML := hide hML
  clear hW BW0 hco hli hM h0 hh hlim hinv hs0 hs0e hML d1 d2
  go_enter Tryz.func22, Tryz.ntmps22
  go_upto_region 1 with fail
  rw [← unhide HW]
  clear HW
  obtain ⟨x0, x1, x2, x3, x4, x5, x6, xf, xz⟩ := (unhide MSW).x.cells
  dsimp only at x0 x1 x2 x3 x4 x5 x6
  rw [unhide HML] at x6
  have hzW := (unhide MSW).z
  go_wp2_with fail
  refine (unhide HOLD W (unhide MSW).co (by omega) (by omega)).mono ?_
  rintro e w1 ⟨N, hN, rfl, hNc, hco1, hb1, hz1, hk1⟩
  dsimp only at hN hNc hco1
  dsimp only
  rw [unhide HML]
  have X1 := hide ((unhide MSW).x.blk (hk1 w.heap.size (by omega) (by omega)))
  have Y1 := hide ((unhide MSW).y.blk (hk1 (w.heap.size + 1) (by omega) (by omega)))
  have B1 := hide ((unhide MSW).b.trans (hb1.mono (Nat.le_refl _)))
  have HC1 := hide hco1
  have HN1 := hide hN
  have HNC := hide hNc
  clear x0 x1 x2 x3 x4 x5 x6 xf xz hb1 hk1 hco1 hN hNc MSW HOLD
  dsimp only at X1
  rw [unhide HML] at X1 HN1
  obtain ⟨x0, x1, x2, x3, x4, x5, x6, xf, xz⟩ := (unhide X1).cells
  go_upto_region 2 with fail
  have X2 := hide ((unhide X1).st7 C.now C.nx C.lim C.lost (.slice a1 C.ns.length c1) (.slice a2 C.cs.length c2) (.slice (some ⟨g, 0, none⟩) n c3))
  have Y2 := hide ((unhide Y1).st7o (X := w.heap.size) (by omega) C.now C.nx C.lim C.lost (.slice a1 C.ns.length c1) (.slice a2 C.cs.length c2) (.slice (some ⟨g, 0, none⟩) n c3))
  have K2 := hide ((unhide HC1).box7 (unhide X1) C.now C.nx C.lim C.lost (.slice a1 C.ns.length c1) (.slice a2 C.cs.length c2) (.slice (some ⟨g, 0, none⟩) n c3))
  have B2 := hide (below_st7 (unhide B1) hB C.now C.nx C.lim C.lost (.slice a1 C.ns.length c1) (.slice a2 C.cs.length c2) (.slice (some ⟨g, 0, none⟩) n c3))
  have hz2 : w1.heap.size ≤ (Clus.st7 w1 w.heap.size C.now C.nx C.lim C.lost (.slice a1 C.ns.length c1) (.slice a2 C.cs.length c2) (.slice (some ⟨g, 0, none⟩) n c3)).heap.size := Nat.le_of_eq (size_st7 _ _ _ _ _ _ _ _ _).symm
  unfold Clus.st7 at X2 Y2 K2 B2 hz2
  generalize ((((((w1.setCell ⟨w.heap.size, 0, none⟩ (.int .i64 C.now)).setCell ⟨w.heap.size, 1, none⟩ (.int .i64 C.nx)).setCell ⟨w.heap.size, 2, none⟩ (.int .i64 C.lim)).setCell ⟨w.heap.size, 3, none⟩ (.int .i64 C.lost)).setCell ⟨w.heap.size, 4, none⟩ (.slice a1 C.ns.length c1)).setCell ⟨w.heap.size, 5, none⟩ (.slice a2 C.cs.length c2)).setCell ⟨w.heap.size, 6, none⟩ (.slice (some ⟨g, 0, none⟩) n c3) = w2 at X2 Y2 K2 B2 hz2 ⊢
  clear x0 x1 x2 x3 x4 x5 x6 xf xz X1 Y1 HC1 B1
  have hL0 : Hid (C.lost = min (C.lost + ((mvN C.cs 0 (C.ps.map (dropC C.now), 0)).2 : Nat)) 1000000) := by
    have := unhide HLO
    show C.lost = min (C.lost + ((0 : Nat) : Int)) 1000000
    omega
  have hN0 : Hid (N.map Pls.core = (mvN C.cs 0 (C.ps.map (dropC C.now), 0)).1) := (unhide HNC).trans (unhide HS0)
  go_wp2_with fail
  go_loopw [6] (fun nv wr => ∃ (m : Nat) (N : List Pls.Pl) (L : Int), nv = .int .i64 (m : Int) ∧ m ≤ many ∧ Hid (CB wr w.heap.size C.now C.nx C.lim L (.slice a1 C.ns.length c1) (.slice a2 C.cs.length c2) (.slice (some ⟨g, 0, none⟩) n c3)) ∧ Hid (CB wr (w.heap.size + 1) 0 0 0 0 (.slice none 0 0) (.slice none 0 0) (.slice none 0 0)) ∧ Hid (CO wr B ⟨C.now, C.nx, C.lim, L, a1, c1, C.ns, a2, c2, C.cs, some ⟨g, 0, none⟩, c3, N⟩) ∧ Hid (N.length = n) ∧ Hid (N.map Pls.core = (mvN C.cs m (C.ps.map (dropC C.now), 0)).1) ∧ Hid (L = min (C.lost + ((mvN C.cs m (C.ps.map (dropC C.now), 0)).2 : Nat)) 1000000) ∧ Hid (∀ j, j < m → noneB C.cs (mvN C.cs j (C.ps.map (dropC C.now), 0)).1 = false) ∧ Hid (Below B w wr) ∧ w.heap.size + 2 ≤ wr.heap.size) (fun nv _ => many - (intOf nv).toNat)
  case atStart => exact ⟨0, N, C.lost, rfl, Nat.zero_le _, X2, Y2, K2, HN1, hN0, hL0, hide (fun j hj => by omega), B2, by omega⟩
  case round =>
    clear X2 Y2 K2 B2 hz2 hN0 hL0 HN1 HNC HS0
    obtain ⟨m, N, L, rfl, hmm, HX, HY, HK, HNL, HCO', HL, HNN, HB, hz⟩ := hrel
    obtain ⟨x0, x1, x2, x3, x4, x5, x6, xf, xz⟩ := (unhide HX).cells
    by_cases hlt : m < many
    case neg =>
      obtain rfl : m = many := by omega
      obtain ⟨y0, y1, y2, y3, y4, y5, y6, yf, yz⟩ := (unhide HY).cells
      go_wp2
      refine bodyPost_ret (v := .tuple #[.agg #[.int .i64 C.now, .int .i64 C.nx, .int .i64 C.lim, .int .i64 L, .slice a1 C.ns.length c1, .slice a2 C.cs.length c2, .slice (some ⟨g, 0, none⟩) n c3], .int .i64 (m : Int)]) (by simp [results, Tryz.results22, go_sem, y0, y1, y2, y3, y4, y5, y6]) rfl ⟨m, N, L, rfl, unhide HNL, unhide HCO', unhide HL, hmm, unhide HNN, ?_, ?_, ?_, ?_⟩
      · exact .inl rfl
      · exact (unhide HK).box7 (unhide HY) C.now C.nx C.lim L (.slice a1 C.ns.length c1) (.slice a2 C.cs.length c2) (.slice (some ⟨g, 0, none⟩) n c3)
      · repeat (refine Below.setCell ?_ (by first | (simp; done) | (simp; omega)) _)
        exact unhide HB
      · simp; omega
    have hlN : N.length ≤ 16 := by rw [unhide HNL]; omega
    have hinv : Inv C (N.map Pls.core) := by rw [unhide HCO']; exact unhide HINV m (unhide HNN)
    have HFC := hide (unhide HFI L N wr hinv (unhide HK) (by omega) hlN)
    rw [unhide HNL] at HFC
    have HIV := hide hinv
    clear hinv
    go_wp2_with fail
    refine (unhide HFC).mono ?_
    rintro e w3 ⟨R, rfl, hR, hb3⟩
    have X3 := hide ((unhide HX).below hb3 xz)
    have Y3 := hide ((unhide HY).below hb3 (by omega))
    have K3 := hide ((unhide HK).below hb3 (Nat.le_refl _))
    have B3 := hide ((unhide HB).trans (hb3.mono (by omega)))
    have hz3 := hb3.size
    clear hb3 HX HY HK HB x0 x1 x2 x3 x4 x5 x6 xf xz HFC
    rcases hR with ⟨hre, hno⟩ | ⟨hre, i, r, k, hi, ha⟩
    · have HNO : Hid (noneB C.cs (mvN C.cs m (C.ps.map (dropC C.now), 0)).1 = true) := by rw [← unhide HCO']; exact hno
      clear hno
      obtain ⟨x0, x1, x2, x3, x4, x5, x6, xf, xz⟩ := (unhide X3).cells
      obtain ⟨y0, y1, y2, y3, y4, y5, y6, yf, yz⟩ := (unhide Y3).cells
      go_wp2
      refine bodyPost_ret (v := .tuple #[.agg #[.int .i64 C.now, .int .i64 C.nx, .int .i64 C.lim, .int .i64 L, .slice a1 C.ns.length c1, .slice a2 C.cs.length c2, .slice (some ⟨g, 0, none⟩) n c3], .int .i64 (m : Int)]) (by simp [results, Tryz.results22, go_sem, y0, y1, y2, y3, y4, y5, y6]) rfl ⟨m, N, L, rfl, unhide HNL, unhide HCO', unhide HL, hmm, unhide HNN, ?_, ?_, ?_, ?_⟩
      · exact .inr (unhide HNO)
      · exact (unhide K3).box7 (unhide Y3) C.now C.nx C.lim L (.slice a1 C.ns.length c1) (.slice a2 C.cs.length c2) (.slice (some ⟨g, 0, none⟩) n c3)
      · repeat (refine Below.setCell ?_ (by first | (simp; done) | (simp; omega)) _)
        exact unhide B3
      · simp; omega
    · have hi : i < N.length := by rw [unhide HNL]; exact hi
      have hlo : 0 ≤ L ∧ L ≤ 1000000 := by
        rw [unhide HL]
        have := (unhide HLO).1
        omega
      have HMC := hide (unhide HMO L N w3 R i r k (unhide HIV) (unhide K3) (by omega) (by omega) hlN hlo hi ha)
      rw [unhide HNL] at HMC
      have hkN : k < N.length := by have := ha.kl; simpa using this
      have HAT := hide ha
      obtain ⟨x0, x1, x2, x3, x4, x5, x6, xf, xz⟩ := (unhide X3).cells
      have hii := hide hi
      clear ha hi
      go_wp2_with fail
      refine (unhide HMC).mono ?_
      rintro e w4 ⟨u1, u2, L4, rfl, hu1, hu2, hL4, hco4, hb4, hz4, hk4⟩
      rw [unhide HNL]
      have X4 := hide ((unhide X3).blk (hk4 w.heap.size (by omega) (by omega)))
      have Y4 := hide ((unhide Y3).blk (hk4 (w.heap.size + 1) (by omega) (by omega)))
      have B4 := hide ((unhide B3).trans hb4)
      obtain ⟨m1, m2⟩ := move_core (C := C) (unhide hii) hkN hu1 hu2
      have hst : mvN C.cs (m + 1) (C.ps.map (dropC C.now), 0) = mv1 C.cs (N.map Pls.core, (mvN C.cs m (C.ps.map (dropC C.now), 0)).2) := by rw [unhide HCO']; rfl
      rw [(unhide HAT).mv] at hst
      have HCO4 : Hid (((N.set i u1).set k u2).map Pls.core = (mvN C.cs (m + 1) (C.ps.map (dropC C.now), 0)).1) := by rw [hst]; exact m1
      have HL4 : Hid (L4 = min (C.lost + ((mvN C.cs (m + 1) (C.ps.map (dropC C.now), 0)).2 : Nat)) 1000000) := by
        show L4 = _
        rw [hst, hL4, unhide HL, m2]
        push_cast
        omega
      have HNN4 : Hid (∀ j, j < m + 1 → noneB C.cs (mvN C.cs j (C.ps.map (dropC C.now), 0)).1 = false) := fun j hj => if e : j = m then (by rw [e, ← unhide HCO']; exact (unhide HAT).nn) else unhide HNN j (by omega)
      have HNL4 : Hid (((N.set i u1).set k u2).length = n) := by show _ = n; rw [List.length_set, List.length_set]; exact unhide HNL
      have K4 := hide hco4
      clear x0 x1 x2 x3 x4 x5 x6 xf xz hu1 hu2 hL4 hco4 hb4 hk4 X3 Y3 K3 B3 HMC m1 m2 hst HAT hii
      obtain ⟨x0, x1, x2, x3, x4, x5, x6, xf, xz⟩ := (unhide X4).cells
      go_upto_region 7 with fail
      have X5 := hide ((unhide X4).st7 C.now C.nx C.lim L4 (.slice a1 C.ns.length c1) (.slice a2 C.cs.length c2) (.slice (some ⟨g, 0, none⟩) n c3))
      have Y5 := hide ((unhide Y4).st7o (X := w.heap.size) (by omega) C.now C.nx C.lim L4 (.slice a1 C.ns.length c1) (.slice a2 C.cs.length c2) (.slice (some ⟨g, 0, none⟩) n c3))
      have K5 := hide ((unhide K4).box7 (unhide X4) C.now C.nx C.lim L4 (.slice a1 C.ns.length c1) (.slice a2 C.cs.length c2) (.slice (some ⟨g, 0, none⟩) n c3))
      have B5 := hide (below_st7 (unhide B4) hB C.now C.nx C.lim L4 (.slice a1 C.ns.length c1) (.slice a2 C.cs.length c2) (.slice (some ⟨g, 0, none⟩) n c3))
      have hz5 : w4.heap.size ≤ (Clus.st7 w4 w.heap.size C.now C.nx C.lim L4 (.slice a1 C.ns.length c1) (.slice a2 C.cs.length c2) (.slice (some ⟨g, 0, none⟩) n c3)).heap.size := Nat.le_of_eq (size_st7 _ _ _ _ _ _ _ _ _).symm
      unfold Clus.st7 at X5 Y5 K5 B5 hz5
      generalize ((((((w4.setCell ⟨w.heap.size, 0, none⟩ (.int .i64 C.now)).setCell ⟨w.heap.size, 1, none⟩ (.int .i64 C.nx)).setCell ⟨w.heap.size, 2, none⟩ (.int .i64 C.lim)).setCell ⟨w.heap.size, 3, none⟩ (.int .i64 L4)).setCell ⟨w.heap.size, 4, none⟩ (.slice a1 C.ns.length c1)).setCell ⟨w.heap.size, 5, none⟩ (.slice a2 C.cs.length c2)).setCell ⟨w.heap.size, 6, none⟩ (.slice (some ⟨g, 0, none⟩) n c3) = w5 at X5 Y5 K5 B5 hz5 ⊢
      clear x0 x1 x2 x3 x4 x5 x6 xf xz X4 Y4 K4 B4
      go_wp2
      go_roundw
      case rel => exact ⟨m + 1, (N.set i u1).set k u2, L4, by go_num, by omega, X5, Y5, K5, HNL4, HCO4, HL4, HNN4, B5, by omega⟩
      case measure => simp [intOf]; omega
end Mv
end Go.Proofs.YtjgfedmgmfpapaaGreatDoor
/-
  The model's CopySome.
-/
namespace Go.Proofs.YtjgfedmgmfpapaaGreatDoor
namespace Mv
open Go.RowKit Base Store Items OwnR Keep Clus Marks Plc
set_option linter.unusedVariables false

/-- How the model's CopySome ends. -/
def CsEnd (R : CC × Int × Bool) (w : World) (e : Ending) (w' : World) : Prop := ∃ c : Cl, e = .returned (.tuple #[clV c, .int .i64 R.2.1, .bool R.2.2]) ∧ plain c = R.1 ∧ CO w' w.heap.size c ∧ Below w.heap.size w w'
theorem cs_no {R : CC × Int × Bool} {w w' : World} (h : R = (noCC, 0, false)) (hb : Below w.heap.size w w') : CsEnd R w (.returned (.tuple #[.agg #[.int .i64 0, .int .i64 0, .int .i64 0, .int .i64 0, .slice none 0 0, .slice none 0 0, .slice none 0 0], .int .i64 0, .bool false])) w' := by
  subst h
  exact ⟨noCl, rfl, rfl, CO.no w' _, hb⟩

set_option maxRecDepth 10000 in
set_option maxHeartbeats 4000000 in
theorem copySome_spec (now nx lim lost : Int) (b1 b2 b3 : Nat) (ns cs : List Nodes.D) (L : List Pls.Pl) (many : Int) (w : World) (hR : CR w b1 b2 b3 ns cs L) (ln : ns.length ≤ 1048576) (fn : ∀ x ∈ ns, Nodes.Fits x) (lc : cs.length ≤ 1048576) (fc : ∀ x ∈ cs, Nodes.Fits x) (lp : L.length ≤ 1048576) (fp : ∀ x ∈ L, Pls.Fits x) :
    Calls Tryz.prog 6 #[.agg #[.int .i64 now, .int .i64 nx, .int .i64 lim, .int .i64 lost, .slice (some ⟨b1, 0, none⟩) ns.length ns.length, .slice (some ⟨b2, 0, none⟩) cs.length cs.length, .slice (some ⟨b3, 0, none⟩) L.length L.length], .int .i64 many] w (CsEnd (csR ⟨now, nx, lim, lost, ns, cs, L.map Pls.core⟩ many) w) := by
  obtain ⟨C, hC⟩ : ∃ C : CC, C = ⟨now, nx, lim, lost, ns, cs, L.map Pls.core⟩ := ⟨_, rfl⟩
  rw [← hC]
  have hCL : C.ps = L.map Pls.core := by rw [hC]
  have hCc : C.cs = cs := by rw [hC]
  have HG := hide (fun w' (hb : Below w.heap.size w w') => good_spec now nx lim lost b1 b2 b3 ns cs L w' (hR.below hb (Nat.le_refl _)) ln fn lc fc lp fp)
  rw [← hC] at HG
  have HIN := hide (fun u => GoodKey.l1In_any many 0 100 u)
  obtain ⟨W, hW⟩ : ∃ W, W = (w.alloc (.cells #[.int .i64 now, .int .i64 nx, .int .i64 lim, .int .i64 lost, .slice (some ⟨b1, 0, none⟩) ns.length ns.length, .slice (some ⟨b2, 0, none⟩) cs.length cs.length, .slice (some ⟨b3, 0, none⟩) L.length L.length] 30)).alloc (.cells #[.int .i64 0, .int .i64 0, .int .i64 0, .int .i64 0, .slice none 0 0, .slice none 0 0, .slice none 0 0] 30) := ⟨_, rfl⟩
  have BW : Hid (Below w.heap.size w W) := by rw [hW]; exact bel2 w _ _
  have hzW : w.heap.size + 2 ≤ W.heap.size := by rw [hW]; simp
  have CX : Hid (CB W w.heap.size now nx lim lost (.slice (some ⟨b1, 0, none⟩) ns.length ns.length) (.slice (some ⟨b2, 0, none⟩) cs.length cs.length) (.slice (some ⟨b3, 0, none⟩) L.length L.length)) := by
    rw [hW]; exact ((bel1 (w.alloc _) _).block w.heap.size (by simp)).trans (heap_alloc_new w _)
  have CY : Hid (CB W (w.heap.size + 1) 0 0 0 0 (.slice none 0 0) (.slice none 0 0) (.slice none 0 0)) := by
    rw [hW]
    have := heap_alloc_new (w.alloc (.cells #[.int .i64 now, .int .i64 nx, .int .i64 lim, .int .i64 lost, .slice (some ⟨b1, 0, none⟩) ns.length ns.length, .slice (some ⟨b2, 0, none⟩) cs.length cs.length, .slice (some ⟨b3, 0, none⟩) L.length L.length] 30)) (.cells #[.int .i64 0, .int .i64 0, .int .i64 0, .int .i64 0, .slice none 0 0, .slice none 0 0, .slice none 0 0] 30)
    rw [World.size_alloc] at this
    exact this
  have HW := hide hW
  clear hW
  cases hg : gcB C
  · have H : Hid (csR C many = (noCC, 0, false)) := hide (cs_bad hg)
    rw [hg] at HG
    generalize csR C many = R at H ⊢
    clear hg hC hCL hCc hR fn fc fp
    go_enter Tryz.func6, Tryz.ntmps6
    go_upto_region 1 with fail
    rw [← unhide HW]
    obtain ⟨x0, x1, x2, x3, x4, x5, x6, xf, xz⟩ := (unhide CX).cells
    go_wp2_with fail
    refine (unhide HG _ (unhide BW)).mono ?_
    rintro e w1 ⟨rfl, hb1⟩
    have B1 := hide ((unhide BW).trans (hb1.mono (unhide BW).size))
    have Y1 := hide ((unhide CY).below hb1 (by omega))
    clear hb1 x0 x1 x2 x3 x4 x5 x6 xf xz
    obtain ⟨y0, y1, y2, y3, y4, y5, y6, yf, yz⟩ := (unhide Y1).cells
    go_wp2
    refine bodyPost_ret (v := .tuple #[.agg #[.int .i64 0, .int .i64 0, .int .i64 0, .int .i64 0, .slice none 0 0, .slice none 0 0, .slice none 0 0], .int .i64 0, .bool false]) (by simp [results, Tryz.results6, go_sem, y0, y1, y2, y3, y4, y5, y6]) rfl (cs_no (unhide H) ?_)
    repeat (refine Below.setCell ?_ (by first | (simp; done) | (simp; omega)) _)
    exact unhide B1
  by_cases hcz : cs.length = 0
  · have H : Hid (csR C many = (noCC, 0, false)) := hide (cs_still (by rw [hCc]; exact hcz))
    rw [hg] at HG
    generalize csR C many = R at H ⊢
    generalize cs.length = cl at hcz CX HW HG ⊢
    have hd3 : decide (cl = 0) = true := by simp; omega
    have hd2 : (cl == 0) = true := by simp; omega
    have hd4 : ((cl : Int) == 0) = true := by simp; omega
    have hd5 : decide ((cl : Int) = 0) = true := by simp; omega
    clear hg hC hCL hCc hR fn fc fp hcz
    go_enter Tryz.func6, Tryz.ntmps6
    go_upto_region 1 with fail
    rw [← unhide HW]
    obtain ⟨x0, x1, x2, x3, x4, x5, x6, xf, xz⟩ := (unhide CX).cells
    go_wp2_with fail
    refine (unhide HG _ (unhide BW)).mono ?_
    rintro e w1 ⟨rfl, hb1⟩
    have B1 := hide ((unhide BW).trans (hb1.mono (unhide BW).size))
    have Y1 := hide ((unhide CY).below hb1 (by omega))
    have X1 := hide ((unhide CX).below hb1 (by omega))
    clear hb1 x0 x1 x2 x3 x4 x5 x6 xf xz
    obtain ⟨x0, x1, x2, x3, x4, x5, x6, xf, xz⟩ := (unhide X1).cells
    obtain ⟨y0, y1, y2, y3, y4, y5, y6, yf, yz⟩ := (unhide Y1).cells
    go_wp2
    refine bodyPost_ret (v := .tuple #[.agg #[.int .i64 0, .int .i64 0, .int .i64 0, .int .i64 0, .slice none 0 0, .slice none 0 0, .slice none 0 0], .int .i64 0, .bool false]) (by simp [results, Tryz.results6, go_sem, y0, y1, y2, y3, y4, y5, y6]) rfl (cs_no (unhide H) ?_)
    repeat (refine Below.setCell ?_ (by first | (simp; done) | (simp; omega)) _)
    exact unhide B1
  have hd1 : ((cs.length : Int) == 0) = false := by simpa using hcz
  have hd2 : decide ((cs.length : Int) = 0) = false := by simpa using hcz
  have hd3 : (cs.length == 0) = false := by simpa using hcz
  have hd4 : decide (cs.length = 0) = false := by simpa using hcz
  have hcp : 0 < cs.length := by omega
  cases hin : GoodKey.inB many 0 100
  · have H : Hid (csR C many = (noCC, 0, false)) := hide (cs_out hin)
    rw [hg] at HG
    rw [hin] at HIN
    generalize csR C many = R at H ⊢
    generalize cs.length = cl at *
    clear hg hC hCL hCc hR fn fc fp hcz hin
    go_enter Tryz.func6, Tryz.ntmps6
    go_upto_region 1 with fail
    rw [← unhide HW]
    obtain ⟨x0, x1, x2, x3, x4, x5, x6, xf, xz⟩ := (unhide CX).cells
    go_wp2_with fail
    refine (unhide HG _ (unhide BW)).mono ?_
    rintro e w1 ⟨rfl, hb1⟩
    have B1 := hide ((unhide BW).trans (hb1.mono (unhide BW).size))
    have Y1 := hide ((unhide CY).below hb1 (by omega))
    have X1 := hide ((unhide CX).below hb1 (by omega))
    clear hb1 x0 x1 x2 x3 x4 x5 x6 xf xz
    obtain ⟨x0, x1, x2, x3, x4, x5, x6, xf, xz⟩ := (unhide X1).cells
    obtain ⟨y0, y1, y2, y3, y4, y5, y6, yf, yz⟩ := (unhide Y1).cells
    go_wp2_with (go_at_call 21; refine (unhide HIN _).mono ?_; rintro e w' ⟨rfl, hw'⟩; rw [hw']; clear hw' w')
    refine bodyPost_ret (v := .tuple #[.agg #[.int .i64 0, .int .i64 0, .int .i64 0, .int .i64 0, .slice none 0 0, .slice none 0 0, .slice none 0 0], .int .i64 0, .bool false]) (by simp [results, Tryz.results6, go_sem, y0, y1, y2, y3, y4, y5, y6]) rfl (cs_no (unhide H) ?_)
    repeat (refine Below.setCell ?_ (by first | (simp; done) | (simp; omega)) _)
    exact unhide B1
  obtain ⟨mn, hmn, hm100⟩ : ∃ mn : Nat, many = (mn : Int) ∧ mn ≤ 100 := by
    simp only [GoodKey.inB, Bool.and_eq_true, decide_eq_true_eq] at hin
    exact ⟨many.toNat, by omega, by omega⟩
  subst hmn
  have hcs : C.cs ≠ [] := by rw [hCc]; rintro rfl; simp at hcz
  obtain ⟨l16, hgs⟩ := gc_stores hCL hg
  obtain ⟨c8n, c8c⟩ := gc_nodes hg
  have h60 : ∀ x ∈ L, x.its.length ≤ 1000 := fun x hx => by
    obtain ⟨j, hj, rfl⟩ := List.getElem_of_mem hx
    have := (gs_item (hgs j hj).1).1
    rw [List.getD_eq_getElem?_getD, List.getElem?_eq_getElem hj] at this
    simp only [Option.getD_some] at this
    omega
  have hL0 : 0 < L.length := by
    have := (Fleet.gc_ok hCL hg).2.1
    rw [hCL, List.length_map] at this
    exact this
  have hn8 : ns.length ≤ 8 := by rw [hC] at c8n; exact c8n
  have hc8 : cs.length ≤ 8 := by rw [hC] at c8c; exact c8c
  have HOWN := hide (fun w' (hb : Below w.heap.size w w') => own_spec now nx lim lost b1 b2 b3 ns cs L w' (hR.below hb (Nat.le_refl _)) (by omega) (by omega) (by omega) h60)
  have HCP : Hid (∀ (a1 : Option Addr) (k1 : Nat) (a2 : Option Addr) (k2 g k3 : Nat) (M : List Pls.Pl) (B : Nat) (u : World), M.map Pls.core = L.map Pls.core → B ≤ u.heap.size → CO u B ⟨now, nx, lim, lost, a1, k1, ns, a2, k2, cs, some ⟨g, 0, none⟩, k3, M⟩ → g < u.heap.size → Calls Tryz.prog 22 #[.agg #[.int .i64 now, .int .i64 nx, .int .i64 lim, .int .i64 lost, .slice a1 ns.length k1, .slice a2 cs.length k2, .slice (some ⟨g, 0, none⟩) M.length k3], .int .i64 (mn : Int)] u (CpEnd ⟨now, nx, lim, lost, ns, cs, L.map Pls.core⟩ a1 k1 a2 k2 g k3 M.length mn B u)) := fun a1 k1 a2 k2 g k3 M B u hM hB hco hgl =>
    copy_spec ⟨now, nx, lim, lost, ns, cs, L.map Pls.core⟩ a1 k1 a2 k2 g k3 M B mn u (by rw [← hC]; exact hg) (by rw [← hCc, hC] at *; exact hcs) hM hB hco hgl (by rw [Pls.map_len hM]; omega) hm100
  have HYES : Hid (∀ m, m ≤ mn → (∀ j, j < m → noneB C.cs (mvN C.cs j (t0 C)).1 = false) → (m = mn ∨ noneB C.cs (mvN C.cs m (t0 C)).1 = true) → csR C (mn : Int) = (csC C m, ((m : Nat) : Int), true)) := fun m h1 h2 h3 => cs_yes hg (by rw [hCc]; exact hcz) hm100 h1 h2 h3
  rw [hg] at HG
  rw [hin] at HIN
  have HCE := hide hC
  generalize csR C (mn : Int) = R at HYES ⊢
  clear hg hC hCL hCc hR fn fc fp hgs h60 hcz hcs hin c8n c8c
  go_enter Tryz.func6, Tryz.ntmps6
  go_upto_region 1 with fail
  rw [← unhide HW]
  clear HW
  obtain ⟨x0, x1, x2, x3, x4, x5, x6, xf, xz⟩ := (unhide CX).cells
  go_wp2_with fail
  refine (unhide HG _ (unhide BW)).mono ?_
  rintro e w1 ⟨rfl, hb1⟩
  have B1 := hide ((unhide BW).trans (hb1.mono (unhide BW).size))
  have Y1 := hide ((unhide CY).below hb1 (by omega))
  have X1 := hide ((unhide CX).below hb1 (by omega))
  have hz1 := hb1.size
  clear hb1 x0 x1 x2 x3 x4 x5 x6 xf xz HG CX CY BW
  obtain ⟨x0, x1, x2, x3, x4, x5, x6, xf, xz⟩ := (unhide X1).cells
  go_wp2_with (go_at_call 21; refine (unhide HIN _).mono ?_; rintro e w' ⟨rfl, hw'⟩; rw [hw']; clear hw' w')
  refine (unhide HOWN _ (unhide B1)).mono ?_
  rintro e w3 hown
  obtain ⟨a1, k1, a2, k2, a3, k3, M, rfl, hM, hco, hb3⟩ := hown.co
  clear hown
  have B3 := hide ((unhide B1).trans (hb3.mono (unhide B1).size))
  have Y3 := hide ((unhide Y1).below hb3 (by omega))
  have hz3 := hb3.size
  have hlM := Pls.map_len hM
  obtain ⟨g, rfl, hg2, hg3⟩ := hco.p.head (show 0 < M.length by omega)
  have HEN := hide (unhide HCP a1 k1 a2 k2 g k3 M w1.heap.size w3 hM hz3 hco hg3)
  clear hb3 x0 x1 x2 x3 x4 x5 x6 xf xz HOWN X1 Y1 B1 hco hM HCP hlM
  go_wp2_with fail
  refine (unhide HEN).mono ?_
  rintro e w4 ⟨m, N, LL, rfl, hNl, hNc, hLL, hmm, hnn, hdone, hco4, hb4, hz4⟩
  dsimp only at hNc hLL hnn hdone hco4
  have hce := unhide HCE
  have hRE : R = (csC C m, ((m : Nat) : Int), true) := unhide HYES m hmm (by rw [hce]; exact hnn) (by rw [hce]; exact hdone)
  have hcsC : csC C m = ⟨now, nx, lim, LL, ns, cs, N.map Pls.core⟩ := by
    rw [hce]
    unfold csC t0
    dsimp only
    rw [← hNc, ← hLL]
  have B4 := hide ((unhide B3).trans (hb4.mono (by omega)))
  have Y4 := hide ((unhide Y3).below hb4 (by omega))
  have K4 := hide hco4
  have HRE := hide hRE
  have HCS := hide hcsC
  have HNLN := hide hNl
  clear HEN HYES B3 Y3 hb4 hNc hLL hnn hdone hco4 hRE hcsC hce hNl
  dsimp only
  go_upto_region 4 with fail
  have YU := hide ((unhide Y4).below (bel1 w4 (.cells #[.int .i64 now, .int .i64 nx, .int .i64 lim, .int .i64 LL, .slice a1 ns.length k1, .slice a2 cs.length k2, .slice (some ⟨g, 0, none⟩) M.length k3] 30)) (by omega))
  have BU := hide ((unhide B4).alloc (by omega) (.cells #[.int .i64 now, .int .i64 nx, .int .i64 lim, .int .i64 LL, .slice a1 ns.length k1, .slice a2 cs.length k2, .slice (some ⟨g, 0, none⟩) M.length k3] 30))
  have KU := hide ((unhide K4).below (bel1 w4 (.cells #[.int .i64 now, .int .i64 nx, .int .i64 lim, .int .i64 LL, .slice a1 ns.length k1, .slice a2 cs.length k2, .slice (some ⟨g, 0, none⟩) M.length k3] 30)) (Nat.le_refl _))
  have XU : Hid (CB (w4.alloc (.cells #[.int .i64 now, .int .i64 nx, .int .i64 lim, .int .i64 LL, .slice a1 ns.length k1, .slice a2 cs.length k2, .slice (some ⟨g, 0, none⟩) M.length k3] 30)) w4.heap.size now nx lim LL (.slice a1 ns.length k1) (.slice a2 cs.length k2) (.slice (some ⟨g, 0, none⟩) M.length k3)) := heap_alloc_new w4 _
  generalize w4.alloc (.cells #[.int .i64 now, .int .i64 nx, .int .i64 lim, .int .i64 LL, .slice a1 ns.length k1, .slice a2 cs.length k2, .slice (some ⟨g, 0, none⟩) M.length k3] 30) = U at YU BU KU XU ⊢
  generalize w4.heap.size = ob at XU hz4 ⊢
  obtain ⟨x0, x1, x2, x3, x4, x5, x6, xf, xz⟩ := (unhide XU).cells
  obtain ⟨t0, t1, t2, t3, t4, t5, t6, tf, tz⟩ := (unhide YU).cells
  go_wp2
  refine bodyPost_ret (v := .tuple #[.agg #[.int .i64 now, .int .i64 nx, .int .i64 lim, .int .i64 LL, .slice a1 ns.length k1, .slice a2 cs.length k2, .slice (some ⟨g, 0, none⟩) M.length k3], .int .i64 (m : Int), .bool true]) (by simp [results, Tryz.results6, go_sem, t0, t1, t2, t3, t4, t5, t6]) rfl ⟨⟨now, nx, lim, LL, a1, k1, ns, a2, k2, cs, some ⟨g, 0, none⟩, k3, N⟩, ?_, ?_, CO.le (B := w1.heap.size) ?_ (by omega), ?_⟩
  · rw [unhide HRE]
    show _ = Ending.returned (.tuple #[.agg #[.int .i64 now, .int .i64 nx, .int .i64 lim, .int .i64 LL, .slice a1 ns.length k1, .slice a2 cs.length k2, .slice (some ⟨g, 0, none⟩) N.length k3], .int .i64 (m : Int), .bool true])
    rw [unhide HNLN]
  · rw [unhide HRE]; exact (unhide HCS).symm
  · exact (unhide KU).box7 (unhide YU) now nx lim LL (.slice a1 ns.length k1) (.slice a2 cs.length k2) (.slice (some ⟨g, 0, none⟩) M.length k3)
  · repeat (refine Below.setCell ?_ (by first | (simp; done) | (simp; omega)) _)
    exact unhide BU
end Mv
end Go.Proofs.YtjgfedmgmfpapaaGreatDoor
/-
  Rows of nodes that may be written, and the marks. No Go function is spoken of here.
-/
namespace Go.Proofs.YtjgfedmgmfpapaaGreatDoor
namespace NodesM
open Go.RowKit Base NumText Marks
set_option linter.unusedVariables false

/-- Cell j of a row that bears the marks from k on. -/
def mcell (k : Int) (j : Nat) : Value := if j % 2 = 0 then .string (mtxt (k + j).toNat) else .int .i64 (k + j)
theorem mc0 (k : Int) (j : Nat) (h : j % 2 = 0) : mcell k j = .string (mtxt (k + j).toNat) := by unfold mcell; rw [if_pos h]
theorem mc1 (k : Int) (j : Nat) (h : j % 2 = 1) : mcell k j = .int .i64 (k + j) := by unfold mcell; rw [if_neg (by omega)]
def mhalf (f : Nat → Value) (k : Int) (i j : Nat) : Value := if j < i * 2 then mcell k j else f j
theorem mhalf_step (f : Nat → Value) (k : Int) (i j : Nat) : (if j = i * 2 + 1 then (.int .i64 (k + i * 2 + 1) : Value) else if j = i * 2 then (.string (mtxt (k + i * 2).toNat) : Value) else mhalf f k i j) = mhalf f k (i + 1) j := by
  unfold mhalf
  by_cases h1 : j = i * 2 + 1
  · subst h1
    rw [if_pos rfl, if_pos (by omega), mc1 _ _ (by omega), show k + ((i * 2 + 1 : Nat) : Int) = k + i * 2 + 1 by omega]
  rw [if_neg h1]
  by_cases h0 : j = i * 2
  · subst h0
    rw [if_pos rfl, if_pos (by omega), mc0 _ _ (by omega), show k + ((i * 2 : Nat) : Int) = k + i * 2 by omega]
  rw [if_neg h0]
  by_cases h : j < i * 2
  · rw [if_pos h, if_pos (by omega)]
  · rw [if_neg h, if_neg (by omega)]

/-- A slice of n elements that may be written: empty, or the head of a row of its own; r names the row. -/
def Ours (w : World) (a : Option Addr) (n : Nat) (f : Nat → Value) (r : Option Nat) : Prop :=
  (n = 0 ∧ r = none) ∨ ∃ g, a = some ⟨g, 0, none⟩ ∧ r = some g ∧ RowAt w g 98 (n * 2) f
theorem Ours.below {w w' : World} {a : Option Addr} {n : Nat} {f : Nat → Value} {r : Option Nat} {B : Nat} (h : Ours w a n f r) (hb : Below B w w') (hB : w.heap.size ≤ B) : Ours w' a n f r := by
  rcases h with h | ⟨g, ha, hr, h⟩
  · exact .inl h
  · exact .inr ⟨g, ha, hr, h.below hb (Nat.lt_of_lt_of_le h.lt hB)⟩
theorem Ours.gb {w w' : World} {a : Option Addr} {n : Nat} {f : Nat → Value} {r q : Option Nat} (h : Ours w a n f r) (hg : w.grownBy w' q) (hne : ∀ g, r = some g → some g ≠ q) : Ours w' a n f r := by
  rcases h with h | ⟨g, ha, hr, h⟩
  · exact .inl h
  · exact .inr ⟨g, ha, hr, h.of_block (hg.block g h.lt (hne g hr))⟩
theorem Ours.lt {w : World} {a : Option Addr} {n : Nat} {f : Nat → Value} {r : Option Nat} (h : Ours w a n f r) : ∀ g, r = some g → g < w.heap.size := by
  intro g e
  rcases h with ⟨_, hr⟩ | ⟨g', _, hr, h⟩
  · rw [hr] at e; simp at e
  · rw [hr] at e; simp at e; rw [← e]; exact h.lt
theorem Ours.congr {w : World} {a : Option Addr} {n : Nat} {f f' : Nat → Value} {r : Option Nat} (h : Ours w a n f r) (e : ∀ i, i < n * 2 → f i = f' i) : Ours w a n f' r := by
  rcases h with h | ⟨g, ha, hr, h⟩
  · exact .inl h
  · exact .inr ⟨g, ha, hr, h.congr e⟩
theorem Ours.row {w : World} {b n : Nat} {f : Nat → Value} (h : w.rowIs b 98 (n * 2) f) : Ours w (some ⟨b, 0, none⟩) n f (some b) :=
  .inr ⟨b, rfl, rfl, RowAt.of_row h⟩
end NodesM
end Go.Proofs.YtjgfedmgmfpapaaGreatDoor
