/-
  How far the model's merge has come, as plain data. No Go function is spoken of here.
-/
import Derived.Test.YtghckjmpcokhcaaGreatDoorMergeX
import Derived.Test.YtghckjmpcokhcaaGreatDoorRingXZ
import Derived.Test.YtghckjmpcokhcaaGreatDoorMergeGZ
import Derived.Deep.RegionHeld3
import Derived.Deep.DeepCutAuto
import Derived.Lib.QuietBelow
import Derived.BigQuiet
namespace Go.Proofs.YtghckjmpcokhcaaGreatDoor
namespace Merge
open Go.RowKit Base Items Split Rd Vals
set_option linter.unusedVariables false

def cn (os ks : List ByteArray) (n : Nat) (rows : List (List Itm)) (j k : Nat) : Nat := cnt os ks (nd os n j) (rows.getD j []) k
/-- Behind k keys, and j parts at the next. -/
structure St (os ks : List ByteArray) (n : Nat) (rows : List (List Itm)) (k j : Nat) (O : List Itm) (A : Nat → Value) : Prop where
  at' : ∀ i, i < (firsts os n).length → A i = .int .i64 (((if i < j then cn os ks n rows i (k + 1) else cn os ks n rows i k) : Nat) : Int)
  out : (∃ p, p < j ∧ p < (firsts os n).length ∧ nd os n p = ow os k ∧ O = outs os ks (rowOf os n rows) (k + 1)) ∨ ((∀ p, p < j → nd os n p ≠ ow os k) ∧ O = outs os ks (rowOf os n rows) k)
section
variable {os ks : List ByteArray} {n : Nat} {rows : List (List Itm)} {k j : Nat} {O : List Itm} {A : Nat → Value}
theorem st_start (h : ∀ i, i < (firsts os n).length → A i = .int .i64 0) : St os ks n rows 0 0 [] A :=
  ⟨fun i hi => by rw [h i hi, if_neg (Nat.not_lt_zero _)]; unfold cn; rw [cnt_zero]; rfl, .inr ⟨fun p hp => absurd hp (Nat.not_lt_zero _), rfl⟩⟩
theorem St.cell (h : St os ks n rows k j O A) (hj : j < (firsts os n).length) : A j = .int .i64 ((cn os ks n rows j k : Nat) : Int) := by rw [h.at' j hj, if_neg (Nat.lt_irrefl _)]
theorem St.len (h : St os ks n rows k j O A) (hk : k < n) : O.length ≤ n := by
  rcases h.out with ⟨_, _, _, _, rfl⟩ | ⟨_, rfl⟩
  · exact Nat.le_trans (outs_len _ _ _ _) hk
  · exact Nat.le_trans (outs_len _ _ _ _) (Nat.le_of_lt hk)
theorem at_same (h : St os ks n rows k j O A) (e : cn os ks n rows j (k + 1) = cn os ks n rows j k) : ∀ i, i < (firsts os n).length → A i = .int .i64 (((if i < j + 1 then cn os ks n rows i (k + 1) else cn os ks n rows i k) : Nat) : Int) := by
  intro i hi
  rw [h.at' i hi]
  by_cases h1 : i < j
  · rw [if_pos h1, if_pos (by omega)]
  · by_cases h2 : i = j
    · subst h2; rw [if_neg h1, if_pos (by omega), e]
    · rw [if_neg h1, if_neg (by omega)]
theorem st_other (h : St os ks n rows k j O A) (hj : j < (firsts os n).length) (hne : nd os n j ≠ ow os k) : St os ks n rows k (j + 1) O A := by
  refine ⟨at_same h (cnt_other (fun e => hne e.symm)), ?_⟩
  rcases h.out with ⟨p, h1, h2, h3, h4⟩ | ⟨h1, h2⟩
  · exact .inl ⟨p, by omega, h2, h3, h4⟩
  · refine .inr ⟨fun p hp => ?_, h2⟩
    by_cases e : p < j
    · exact h1 p e
    · obtain rfl : p = j := by omega
      exact hne
theorem st_old (h : St os ks n rows k j O A) (hj : j < (firsts os n).length) (he : nd os n j = ow os k) : O = outs os ks (rowOf os n rows) k := by
  rcases h.out with ⟨p, h1, h2, h3, _⟩ | ⟨_, h2⟩
  · have := nd_inj h2 hj (h3.trans he.symm); omega
  · exact h2
theorem outs_nd (hj : j < (firsts os n).length) (he : nd os n j = ow os k) : outs os ks (rowOf os n rows) (k + 1) = outs os ks (rowOf os n rows) k ++ (em os ks (rows.getD j []) k).toList := by
  rw [outs_succ, ← he, rowOf_nd hj]
theorem st_hit (h : St os ks n rows k j O A) (hj : j < (firsts os n).length) (he : nd os n j = ow os k) (h1 : cn os ks n rows j k < (rows.getD j []).length) (h2 : ((rows.getD j []).getD (cn os ks n rows j k) zero).key = ow ks k) :
    St os ks n rows k (j + 1) (O ++ [(rows.getD j []).getD (cn os ks n rows j k) zero]) (fun i => if i = j then .int .i64 ((cn os ks n rows j k : Nat) + 1 : Int) else A i) := by
  unfold cn at h1 h2
  rw [he] at h1 h2
  obtain ⟨e1, e2⟩ := cnt_hit h1 h2
  refine ⟨fun i hi => ?_, .inl ⟨j, by omega, hj, he, ?_⟩⟩
  · by_cases h3 : i = j
    · subst h3
      show (if i = i then _ else _) = _
      rw [if_pos rfl, if_pos (by omega)]
      unfold cn; rw [he, e1]; rfl
    · show (if i = j then _ else _) = _
      rw [if_neg h3, h.at' i hi]
      by_cases h4 : i < j
      · rw [if_pos h4, if_pos (by omega)]
      · rw [if_neg h4, if_neg (by omega)]
  · rw [outs_nd hj he, ← st_old h hj he, e2]
    unfold cn; rw [he]; rfl
theorem st_miss (h : St os ks n rows k j O A) (hj : j < (firsts os n).length) (he : nd os n j = ow os k) (hn : ¬ (cn os ks n rows j k < (rows.getD j []).length ∧ ((rows.getD j []).getD (cn os ks n rows j k) zero).key = ow ks k)) :
    St os ks n rows k (j + 1) O A := by
  unfold cn at hn
  rw [he] at hn
  obtain ⟨e1, e2⟩ := cnt_miss hn
  refine ⟨at_same h (by unfold cn; rw [he]; exact e1), .inl ⟨j, by omega, hj, he, ?_⟩⟩
  rw [outs_nd hj he, ← st_old h hj he, e2]; simp
theorem st_end (h : St os ks n rows k (firsts os n).length O A) (hk : k < n) : St os ks n rows (k + 1) 0 O A := by
  refine ⟨fun i hi => by rw [h.at' i hi, if_pos hi, if_neg (Nat.not_lt_zero _)], .inr ⟨fun p hp => absurd hp (Nat.not_lt_zero _), ?_⟩⟩
  rcases h.out with ⟨_, _, _, _, h4⟩ | ⟨h1, _⟩
  · exact h4
  · obtain ⟨p, hp, e⟩ := nd_ex (os := os) hk
    exact absurd e (h1 p hp)
theorem st_all (h : St os ks n rows n 0 O A) : O = outs os ks (rowOf os n rows) n := by
  rcases h.out with ⟨_, h1, _⟩ | ⟨_, h2⟩
  · exact absurd h1 (Nat.not_lt_zero _)
  · exact h2
theorem left_at : (rm os ks (nd os n j) (rows.getD j []) n = []) ↔ ¬ cn os ks n rows j n < (rows.getD j []).length := left_iff _ _ _ _ _
end
end Merge
end Go.Proofs.YtghckjmpcokhcaaGreatDoor
/-
  The model's l6Merge: the items of the parts in the order of the keys.
-/
namespace Go.Proofs.YtghckjmpcokhcaaGreatDoor
namespace Merge
open Go.RowKit Base Items Split Marks KeysS Ring Parts
set_option linter.unusedVariables false

/-- Rows of items, in a row of slices. -/
def RowsAt (w : World) (ra : Option Addr) (rows : List (List Itm)) (f : Nat → Option Addr × Nat) : Prop :=
  0 < rows.length → ∃ rb, ra = some ⟨rb, 0, none⟩ ∧ rb < w.heap.size ∧ ∀ i, i < rows.length → w.cell? ⟨rb, i, none⟩ = some (.slice (f i).1 (rows.getD i []).length (f i).2) ∧ ItemsAt w (f i).1 (rows.getD i []) ∧ (rows.getD i []).length ≤ 60
/-- How l6Merge ends. -/
def MgEnd (os ks : List ByteArray) (n : Nat) (rows : List (List Itm)) (w : World) (e : Ending) (w' : World) : Prop :=
  ∃ v O ok, e = .returned (.tuple #[v, .bool ok]) ∧ w'.ownsRow w.heap.size 35 5 v O.length (Own.flat O) ∧ Below w.heap.size w w' ∧ ((ok = true ∧ O = outs os ks (rowOf os n rows) n ∧ AllTaken os ks n rows) ∨ (ok = false ∧ O = [] ∧ ¬ AllTaken os ks n rows))
theorem mg_no {os ks : List ByteArray} {n : Nat} {rows : List (List Itm)} {w w' : World} (hb : Below w.heap.size w w') (h : ¬ AllTaken os ks n rows) : MgEnd os ks n rows w (.returned (.tuple #[.slice none 0 0, .bool false])) w' :=
  ⟨_, [], false, rfl, World.ownsRow_nil _ _ _ _, hb, .inr ⟨rfl, rfl, h⟩⟩
theorem mg_yes {os ks : List ByteArray} {n : Nat} {rows : List (List Itm)} {w w' : World} {v : Value} {O : List Itm} (ho : w'.ownsRow w.heap.size 35 5 v O.length (Own.flat O)) (hb : Below w.heap.size w w') (hO : O = outs os ks (rowOf os n rows) n) (h : AllTaken os ks n rows) : MgEnd os ks n rows w (.returned (.tuple #[v, .bool true])) w' :=
  ⟨_, O, true, rfl, ho, hb, .inl ⟨rfl, hO, h⟩⟩
theorem info_item3 : ∃ i, Tryz.prog.info? 35 = some i ∧ i.zero = some (.agg #[.string ByteArray.empty, .int .i64 0, .string ByteArray.empty, .int .i64 0, .int .i64 0]) ∧ i.size = 5 ∧ i.bytes = 56 := by
  have h : (Tryz.prog.info? 35).map (fun i => (i.zero, i.size, i.bytes)) = some (some (.agg #[.string ByteArray.empty, .int .i64 0, .string ByteArray.empty, .int .i64 0, .int .i64 0]), 5, 56) := by kernel_rfl
  obtain ⟨i, hi, hz⟩ := Option.map_eq_some_iff.1 h
  simp only [Prod.mk.injEq] at hz
  exact ⟨i, hi, hz.1, hz.2.1, hz.2.2⟩
theorem tells_nd {os ks : List ByteArray} {n N : Nat} {p : Nat → Pt} (h : Tells N p (parts os ks n)) : N = (firsts os n).length ∧ ∀ j, j < N → (p j).node = nd os n j := by
  have e : N = (firsts os n).length := by rw [h.1, parts_len]
  refine ⟨e, fun j hj => ?_⟩
  rw [(h.2 j hj).1, parts_get (by rw [← e]; exact hj)]
  rfl

theorem blk3 {wq W' w3 : World} {r : Option Nat} {go b : Nat} (hb : Below wq.heap.size wq W') (hg : W'.grownBy w3 r) (hr : ∀ k, r = some k → go + 1 ≤ k) (h1 : b ≤ go) (h2 : b < wq.heap.size) : w3.heap[b]? = wq.heap[b]? :=
  (hg.block b (Nat.lt_of_lt_of_le h2 hb.size) (fun e => by have := hr b e.symm; omega)).trans (hb.block b h2)
theorem own_set {w : World} {base : Nat} {e : TypeId} {size : Nat} {v : Value} {n : Nat} {xs : List Value} (h : w.ownsRow base e size v n xs) {b o : Nat} {u : Value} (hb : b < base) : (w.setCell ⟨b, o, none⟩ u).ownsRow base e size v n xs := by
  refine ⟨h.1, h.2.elim Or.inl ?_⟩
  rintro ⟨g, cap, cur, hv, hg, hh, r⟩
  exact Or.inr ⟨g, cap, cur, hv, hg, by rw [Below.heap_setCell w ⟨b, o, none⟩ u g (by show g ≠ b; omega)]; exact hh, r⟩
theorem St.cell0 {os ks : List ByteArray} {n : Nat} {rows : List (List Itm)} {k i : Nat} {O : List Itm} {A : Nat → Value} (h : St os ks n rows k 0 O A) (hi : i < (firsts os n).length) : A i = .int .i64 ((cn os ks n rows i k : Nat) : Int) := by rw [h.at' i hi, if_neg (Nat.not_lt_zero _)]

set_option maxRecDepth 10000 in
set_option maxHeartbeats 4000000 in
theorem l6Merge_some (b off cap : Nat) (l : List Nodes.D) (kb ko kc : Nat) (ks : List ByteArray) (ra : Option Addr) (rcap : Nat) (rows : List (List Itm)) (f : Nat → Option Addr × Nat) (w : World) (hb : b < w.heap.size) (hc : ∀ i, i < l.length → Nodes.At w b (off + i * 2) (l.getD i Nodes.zero)) (hg : NodesM.gnB l = true)
    (hkb : kb < w.heap.size) (hkc : ∀ i, i < ks.length → w.cell? ⟨kb, ko + i, none⟩ = some (.string (ks.getD i ByteArray.empty))) (hk : kB ks = true) (hrl : rows.length = (firsts (owners l ks) ks.length).length) (hr : RowsAt w ra rows f) :
    Calls Tryz.prog 39 #[.slice (some ⟨b, off, none⟩) l.length cap, .slice (some ⟨kb, ko, none⟩) ks.length kc, .slice ra rows.length rcap] w (MgEnd (owners l ks) ks ks.length rows w) := by
  have HSP := hide (l6Split_some b off cap l kb ko kc ks w hb hc hg hkb hkc hk)
  have HO := hide (fun (key : ByteArray) w1 (hb1 : Below w.heap.size w w1) hk => mowner_some b off cap l key w1 (Nat.lt_of_lt_of_le hb (Below.size hb1)) (fun i hi => (hc i hi).below hb1 hb) hg hk)
  have HKC := hide hkc
  have hk60 := (kB_len hk).1
  have HKS := hide (fun k hkk => key_size hk (k := k) hkk)
  have HOA : Hid (∀ k, k < ks.length → ow (owners l ks) k = ownK l (ks.getD k ByteArray.empty)) := fun k h => owners_at h
  have hmix : Tryz.prog.follows .mixedOrders = true := by kernel_rfl
  have HMIX := hide hmix
  have HR := hide hr
  have HRL := hide hrl
  have hr60 : rows.length ≤ 60 := by rw [hrl]; exact Nat.le_trans (firsts_le _ _) hk60
  obtain ⟨i0, hi, hz0, hz1, hz2⟩ := info_item3
  have HI := hide hi
  have HZ0 := hide hz0
  have HZ1 := hide hz1
  have HZ2 := hide hz2
  clear hi hz0 hz1 hz2 hc hg hkc hk hmix hr hrl
  obtain ⟨os, hos⟩ : ∃ os, os = owners l ks := ⟨_, rfl⟩
  rw [← hos] at HSP HOA HRL ⊢
  clear hos
  go_enter Tryz.func39, Tryz.ntmps39
  go_wp2_with fail
  refine (unhide HSP).mono ?_
  rintro e w1 ⟨v, N, p, rfl, hout, htl, hb1⟩
  obtain ⟨hN, hnd⟩ := tells_nd htl
  obtain ⟨ao, co, rfl⟩ := hout.form
  rw [← unhide HRL] at hN
  subst hN
  have OUT := hide hout
  have HND := hide hnd
  have B1 := hide hb1
  clear hout hnd hb1 htl HSP
  have hB1s := (unhide B1).size
  have hmk := fun w => run_make_row' (P := Tryz.prog) 61 3 (.int .i64 0) 8 Tryz.underlying61 (by kernel_rfl) rfl .i64 .i64 rows.length (by omega) (by omega) w
  have RS0 : Hid (RowAt (w1.alloc (.cells (madeCells #[.int .i64 0] rows.length) 3)) w1.heap.size 3 rows.length (fun _ => .int .i64 0)) := RowAt.of_row (rowIs_mades w1 #[.int .i64 0] rows.length 3 (fun _ => .int .i64 0) (fun i => by simp [Nat.mod_one]))
  go_wp2
  clear hmk
  generalize hgo : w1.heap.size = go at RS0 hB1s ⊢
  have hB0 : Hid (Below go w1 (w1.alloc (.cells (madeCells #[.int .i64 0] rows.length) 3))) := by rw [← hgo]; exact bel1 w1 _
  have HGO := hide hgo
  clear hgo
  go_loopw [10, 24] (fun v iv wr => ∃ (k : Nat) (O : List Itm) (A : Nat → Value), k ≤ ks.length ∧ iv = .int .i64 (k : Int) ∧ Hid (St os ks ks.length rows k 0 O A) ∧ Hid (wr.ownsRow (go + 1) 35 5 v O.length (Own.flat O)) ∧ Hid (RowAt wr go 3 rows.length A) ∧ Hid (Below go w1 wr)) (fun _ iv _ => ks.length - (intOf iv).toNat)
  case atStart => exact ⟨0, [], _, Nat.zero_le _, rfl, hide (st_start (fun _ _ => rfl)), hide (World.ownsRow_nil _ _ _ _), RS0, hB0⟩
  case round =>
    obtain ⟨k, O0, A0, hk, rfl, hst, hown, hrow, hbel⟩ := hrel
    by_cases hlt : k < ks.length
    · have hW0 := (unhide B1).trans ((unhide hbel).mono (by omega))
      have hck := (hW0.cell (p := ⟨kb, ko + k, none⟩) hkb).trans (unhide HKC k hlt)
      have hss := unhide HKS k hlt
      have hoa := unhide HOA k hlt
      have hsm : (ks.getD k ByteArray.empty).size ≤ maxLen := by unfold maxLen; omega
      have hcO := fun w1 hb1 => unhide HO (ks.getD k ByteArray.empty) w1 hb1 hsm
      have eO : ownerN (ring (points l)) (Hash.hashN (ks.getD k ByteArray.empty).data.toList) = ow os k := hoa.symm
      rw [eO] at hcO
      have HCO := hide hcO
      have hok : ow ks k = ks.getD k ByteArray.empty := rfl
      have HOK := hide hok
      generalize ks.getD k ByteArray.empty = s at hck hss HCO HOK hsm
      clear hoa hcO eO hok hW0
      go_wp2
      go_loopw [10, 30] (fun v jv wr => ∃ (j : Nat) (O : List Itm) (A : Nat → Value), j ≤ rows.length ∧ jv = .int .i64 (j : Int) ∧ Hid (St os ks ks.length rows k j O A) ∧ Hid (wr.ownsRow (go + 1) 35 5 v O.length (Own.flat O)) ∧ Hid (RowAt wr go 3 rows.length A) ∧ Hid (Below go w1 wr)) (fun _ jv _ => rows.length - (intOf jv).toNat)
      case atStart => exact ⟨0, O0, A0, Nat.zero_le _, rfl, hst, hown, hrow, hbel⟩
      case round =>
        obtain ⟨j, O, A, hj, rfl, hsj, howj, hroj, hbej⟩ := hrel
        by_cases hjl : j < rows.length
        · have hjf : j < (firsts os ks.length).length := by rw [← unhide HRL]; exact hjl
          have hOl := St.len (unhide hsj) hlt
          obtain ⟨va, vc, rfl⟩ := Own.own_form (unhide howj)
          obtain ⟨_, ho⟩ := (unhide OUT).own
          obtain ⟨g, rfl, hrd, hap⟩ := ho.resolve_left (by omega)
          have hgl : g < go := by rw [← unhide HGO]; exact hrd.1.lt
          have c0 : w1.cell? ⟨g, j * 2, none⟩ = some (.string (p j).node) := by rw [hrd.1.cell (by omega), pc0]
          have c1 : w1.cell? ⟨g, j * 2 + 1, none⟩ = some (.slice (some ⟨(p j).g, 0, none⟩) (p j).ks.length (p j).cap) := by rw [hrd.1.cell (by omega), pc1]
          rw [unhide HND j hjl] at c0
          have c0 := ((unhide hbej).cell (p := ⟨g, j * 2, none⟩) hgl).trans c0
          have c1 := ((unhide hbej).cell (p := ⟨g, j * 2 + 1, none⟩) hgl).trans c1
          have hgz : g < wr.heap.size := block_lt_of_cell c0
          have ca := (unhide hroj).cell hjl
          rw [(unhide hsj).cell hjf] at ca
          have hBw := (unhide B1).trans ((unhide hbej).mono (by omega))
          obtain ⟨rb, rfl, hrb, hrc⟩ := unhide HR (by omega)
          obtain ⟨cr, hit, hl60⟩ := hrc j hjl
          have cr := (hBw.cell (p := ⟨rb, j, none⟩) hrb).trans cr
          have HIT := hide hit
          clear hit
          generalize (f j).1 = fa at cr HIT
          generalize (f j).2 = fc at cr
          generalize (p j).g = gj at c1
          generalize (p j).ks.length = lj at c1
          generalize (p j).cap = cj at c1
          clear ho hrd hap hrc
          have hmr := (rm_cnt os ks (nd os ks.length j) (rows.getD j []) k).2
          have hSO := hide (st_other (unhide hsj) hjf)
          have hSH := hide (st_hit (unhide hsj) hjf)
          have hSM := hide (st_miss (unhide hsj) hjf)
          have hm : cn os ks ks.length rows j k ≤ (rows.getD j []).length := hmr
          generalize cn os ks ks.length rows j k = m at ca hSH hSM hm
          generalize rows.getD j [] = row at cr HIT hl60 hSH hSM hm
          generalize nd os ks.length j = nj at c0 hSO hSH hSM
          rw [unhide HOK] at hSH hSM
          generalize ow os k = nk at HCO hSO hSH hSM
          clear hmr
          go_wp2_with fail
          have hzj : go ≤ wr.heap.size := by have h1 := (unhide hbej).size; have h2 : w1.heap.size = go := unhide HGO; omega
          have BW := hide ((unhide hbej).alloc hzj (.cells #[.string nj, .slice (some ⟨gj, 0, none⟩) lj cj] 31))
          have OW := hide (Own.own_below (unhide howj) (bel1 wr (.cells #[.string nj, .slice (some ⟨gj, 0, none⟩) lj cj] 31)) (Nat.le_refl _))
          have RW := hide ((unhide hroj).below (bel1 wr (.cells #[.string nj, .slice (some ⟨gj, 0, none⟩) lj cj] 31)) (unhide hroj).lt)
          have q0 : (wr.alloc (.cells #[.string nj, .slice (some ⟨gj, 0, none⟩) lj cj] 31)).cell? ⟨wr.heap.size, 0, none⟩ = some (.string nj) := by rw [World.cell?_alloc_new]; rfl
          have qa := ((bel1 wr (.cells #[.string nj, .slice (some ⟨gj, 0, none⟩) lj cj] 31)).cell (p := ⟨go, j, none⟩) (block_lt_of_cell ca)).trans ca
          have qr := ((bel1 wr (.cells #[.string nj, .slice (some ⟨gj, 0, none⟩) lj cj] 31)).cell (p := ⟨rb, j, none⟩) (block_lt_of_cell cr)).trans cr
          generalize wr.alloc (.cells #[.string nj, .slice (some ⟨gj, 0, none⟩) lj cj] 31) = W at BW OW RW q0 qa qr ⊢
          clear c0 c1 ca cr hbej howj hroj hBw
          have hzW : go ≤ W.heap.size := by have h1 := (unhide BW).size; have h2 : w1.heap.size = go := unhide HGO; omega
          have cC := fun d os => Calls.regrown_of (unhide HCO (Go.Sort.grow (redrawn W d) os) ((unhide B1).trans (((unhide BW).trans ((below_regrown W d os).mono hzW)).mono (by omega))))
          have Q0 := q0
          have q0 := cell_regrown q0
          have QA := hide qa
          have QR := hide qr
          have qa := cell_regrown qa
          have qr := cell_regrown qr
          clear Q0
          by_cases hne : nj = nk
          case neg =>
            have hx' := str_ne hne
            have HS := hide (unhide hSO hne)
            clear hSO hSH hSM HIT hne
            refine wp_region_quiet_below (unhide HMIX) (by kernel_rfl) ?_
            repeat (go_big_quiet_step (exact cC _ _))
            refine wpQuiet_nil ?_
            intro _ hw'
            obtain ⟨⟨dq, osq⟩, hw''⟩ := hw'
            subst hw''
            have hbq := below_regrown W dq osq
            generalize (Go.Sort.grow (redrawn W dq) osq) = wq at hbq ⊢
            have BQ := hide ((unhide BW).trans (hbq.mono hzW))
            have OQ := hide (Own.own_below (unhide OW) hbq (Nat.le_refl _))
            have RQ := hide ((unhide RW).below hbq (unhide RW).lt)
            clear hbq q0 qa qr cC
            go_wp2
            go_roundw
            case rel => exact ⟨j + 1, O, A, by omega, by go_num, HS, OQ, RQ, BQ⟩
            case measure => simp [intOf]; omega
          have hx' := str_eq hne
          by_cases hml : m < row.length
          case neg =>
            have hml' : ¬ (m : Int) < (row.length : Int) := by omega
            have HS := hide (unhide hSM hne (fun h => hml h.1))
            clear hSO hSH hSM HIT
            refine wp_region_quiet_below (unhide HMIX) (by kernel_rfl) ?_
            repeat (go_big_quiet_step (exact cC _ _))
            refine wpQuiet_nil ?_
            intro _ hw'
            obtain ⟨⟨dq, osq⟩, hw''⟩ := hw'
            subst hw''
            have hbq := below_regrown W dq osq
            generalize (Go.Sort.grow (redrawn W dq) osq) = wq at hbq ⊢
            have BQ := hide ((unhide BW).trans (hbq.mono hzW))
            have OQ := hide (Own.own_below (unhide OW) hbq (Nat.le_refl _))
            have RQ := hide ((unhide RW).below hbq (unhide RW).lt)
            clear hbq q0 qa qr cC
            go_wp2
            go_roundw
            case rel => exact ⟨j + 1, O, A, by omega, by go_num, HS, OQ, RQ, BQ⟩
            case measure => simp [intOf]; omega
          have hml' : (m : Int) < (row.length : Int) := by omega
          obtain ⟨gi, oi, rfl, hgi, hai⟩ := unhide HIT (fun e => by rw [e] at hml; simp at hml)
          have BwW : Below w.heap.size w W := (unhide B1).trans ((unhide BW).mono (by omega))
          have hai := (hai m hml).below BwW hgi
          have HAI := hide hai
          clear BwW
          obtain ⟨qi, _, _, _, _⟩ := hai
          have qi := cell_regrown qi
          by_cases hkey : (row.getD m zero).key = s
          case neg =>
            have hy' := str_ne hkey
            generalize (row.getD m zero).key = y at qi hy'
            have HS := hide (unhide hSM hne (fun h => hkey h.2))
            clear hSO hSH hSM HIT hkey HAI
            refine wp_region_quiet_below (unhide HMIX) (by kernel_rfl) ?_
            repeat (go_big_quiet_step (exact cC _ _))
            refine wpQuiet_nil ?_
            intro _ hw'
            obtain ⟨⟨dq, osq⟩, hw''⟩ := hw'
            subst hw''
            have hbq := below_regrown W dq osq
            generalize (Go.Sort.grow (redrawn W dq) osq) = wq at hbq ⊢
            have BQ := hide ((unhide BW).trans (hbq.mono hzW))
            have OQ := hide (Own.own_below (unhide OW) hbq (Nat.le_refl _))
            have RQ := hide ((unhide RW).below hbq (unhide RW).lt)
            clear hbq q0 qa qr qi cC
            go_wp2
            go_roundw
            case rel => exact ⟨j + 1, O, A, by omega, by go_num, HS, OQ, RQ, BQ⟩
            case measure => simp [intOf]; omega
          have hy' := str_eq hkey
          have HS := hide (unhide hSH hne hml hkey)
          generalize row.getD m zero = x at qi hy' HS HAI
          clear hSO hSH hSM HIT hkey
          refine wp_region_quiet_below (unhide HMIX) (by kernel_rfl) ?_
          repeat (go_big_quiet_step (exact cC _ _))
          refine wpQuiet_nil ?_
          intro _ hw'
          obtain ⟨⟨dq, osq⟩, hw''⟩ := hw'
          subst hw''
          have hbq := below_regrown W dq osq
          generalize (Go.Sort.grow (redrawn W dq) osq) = wq at hbq ⊢
          have BQ := hide ((unhide BW).trans (hbq.mono hzW))
          have OQ := hide (Own.own_below (unhide OW) hbq (Nat.le_refl _))
          have RQ := hide ((unhide RW).below hbq (unhide RW).lt)
          have hzq : go ≤ wq.heap.size := Nat.le_trans hzW hbq.size
          have hgoq : go < wq.heap.size := (unhide RQ).lt
          have za := (hbq.cell (p := ⟨go, j, none⟩) (block_lt_of_cell (unhide QA))).trans (unhide QA)
          have zr := (hbq.cell (p := ⟨rb, j, none⟩) (block_lt_of_cell (unhide QR))).trans (unhide QR)
          have hgiW : gi < W.heap.size := by omega
          obtain ⟨i0c, i1c, i2c, i3c, i4c⟩ := (unhide HAI).below hbq hgiW
          have hgiq : gi < wq.heap.size := by omega
          have hrbq : rb < wq.heap.size := by omega
          have hOB : Hid (∀ k, (Value.slice va O.length vc).ownBlock = some k → go + 1 ≤ k) := Own.own_block (unhide OQ)
          have HOWN : Hid (∀ o, (wq.alloc o).drew.ownsRow (go + 1) 35 5 (.slice va O.length vc) O.length (Own.flat O)) := fun o => Own.own_below (unhide OQ) (bel1 wq o).drew (Nat.le_refl _)
          have HSZ : Hid (∀ o, (wq.alloc o).drew.heap.size = wq.heap.size + 1) := fun o => World.size_alloc _ _
          have HBA : Hid (∀ o, Below wq.heap.size wq (wq.alloc o).drew) := fun o => (bel1 wq o).drew
          clear hbq q0 qa qr qi cC QA QR BW OW RW HAI hy' hx'
          go_wp2
          go_region_held3 (fun u => u.cell? ⟨go, j, none⟩ = some (.int .i64 (m : Int)) ∧ u.cell? ⟨rb, j, none⟩ = some (.slice (some ⟨gi, oi, none⟩) row.length fc) ∧ u.cell? ⟨gi, oi + m * 5, none⟩ = some (.string x.key) ∧ u.cell? ⟨gi, oi + m * 5 + 1, none⟩ = some (.int .i64 x.flags) ∧ u.cell? ⟨gi, oi + m * 5 + 2, none⟩ = some (.string x.data) ∧ u.cell? ⟨gi, oi + m * 5 + 3, none⟩ = some (.int .i64 x.upto) ∧ u.cell? ⟨gi, oi + m * 5 + 4, none⟩ = some (.int .i64 x.token)) (first | assumption | exact ⟨z0, z1, z2, z3, z4, z5, z6⟩ | go_keep | (refine ⟨?_, ?_, ?_, ?_, ?_, ?_, ?_⟩ <;> first | assumption | (simp [*]; done))) (first | (refine step_append_lies _ (by rfl) _ _ _ (by rfl) (go + 1) 35 i0 _ 5 56 Tryz.underlying33 (unhide HI) (unhide HZ0) (unhide HZ1) (unhide HZ2) rfl (by decide) _ _ _ (by rfl) (unhide HOWN _) ⟨wq.heap.size, 0, none⟩ 1 1 (Own.cellsOf x) (by rfl) rfl (Own.news_cells wq x _) (Own.news_one x) (by omega) (by unfold maxLen; omega) (by omega) (by rw [unhide HSZ]; omega) (wq.heap.size + 1) (unhide HSZ _) ?_; intro g3 cap3 w3 hown3 hgrow hat hlt3; have E3 := fun b h1 h2 => blk3 (unhide HBA _) hgrow (unhide hOB) (b := b) h1 h2; have z0 := (World.cell?_of_block (a := ⟨go, j, none⟩) (E3 go (Nat.le_refl _) hgoq)).trans za; have z1 := (World.cell?_of_block (a := ⟨rb, j, none⟩) (E3 rb (by omega) hrbq)).trans zr; have z2 := (World.cell?_of_block (a := ⟨gi, oi + m * 5, none⟩) (E3 gi (by omega) hgiq)).trans i0c; have z3 := (World.cell?_of_block (a := ⟨gi, oi + m * 5 + 1, none⟩) (E3 gi (by omega) hgiq)).trans i1c; have z4 := (World.cell?_of_block (a := ⟨gi, oi + m * 5 + 2, none⟩) (E3 gi (by omega) hgiq)).trans i2c; have z5 := (World.cell?_of_block (a := ⟨gi, oi + m * 5 + 3, none⟩) (E3 gi (by omega) hgiq)).trans i3c; have z6 := (World.cell?_of_block (a := ⟨gi, oi + m * 5 + 4, none⟩) (E3 gi (by omega) hgiq)).trans i4c))
          have O3 : Hid (w3.ownsRow (go + 1) 35 5 (.slice (some ⟨g3, 0, none⟩) (O.length + 1) cap3) (O ++ [x]).length (Own.flat (O ++ [x]))) := Own.own_snoc hown3 rfl
          have B3 := hide (((unhide BQ).trans ((unhide HBA _).mono hzq)).grown hgrow (by rw [unhide HSZ]; have h2 : w1.heap.size = go := unhide HGO; omega) (fun k e => by have h1 := unhide hOB k e; have h2 : w1.heap.size = go := unhide HGO; omega))
          have R3 := hide ((unhide RQ).of_block (E3 go (Nat.le_refl _) hgoq))
          have f3 := (unhide R3).frozen j
          have hgo3 : go < w3.heap.size := (unhide R3).lt
          have O4 := hide (own_set (unhide O3) (b := go) (o := j) (u := .int .i64 ((m : Int) + 1)) (by omega))
          have B4 := hide ((unhide B3).setCell (p := ⟨go, j, none⟩) (Nat.le_refl _) (.int .i64 ((m : Int) + 1)))
          have R4 := hide ((unhide R3).set j (.int .i64 ((m : Int) + 1)))
          clear hown3 hgrow hat E3 z1 z2 z3 z4 z5 z6 za zr i0c i1c i2c i3c i4c
          go_wp2
          go_roundw
          case rel => exact ⟨j + 1, O ++ [x], _, by omega, by go_num, HS, O4, R4, B4⟩
          case measure => simp [intOf]; omega
        · obtain rfl : j = rows.length := by omega
          have HS := hide (st_end (by rw [← unhide HRL]; exact unhide hsj) hlt)
          go_wp2
          go_roundw
          case rel => exact ⟨k + 1, O, A, by omega, by go_num, HS, howj, hroj, hbej⟩
          case measure => simp [intOf]; omega
    · obtain rfl : k = ks.length := by omega
      have HALL : Hid (O0 = outs os ks (rowOf os ks.length rows) ks.length) := st_all (unhide hst)
      go_wp2
      go_loopw [91] (fun iv wr => ∃ i : Nat, i ≤ rows.length ∧ iv = .int .i64 (i : Int) ∧ Hid (∀ q, q < i → ¬ cn os ks ks.length rows q ks.length < (rows.getD q []).length) ∧ Hid (wr.ownsRow (go + 1) 35 5 u10 O0.length (Own.flat O0)) ∧ Hid (RowAt wr go 3 rows.length A0) ∧ Hid (Below go w1 wr)) (fun iv _ => rows.length - (intOf iv).toNat)
      case atStart => exact ⟨0, Nat.zero_le _, rfl, hide (fun q hq => absurd hq (Nat.not_lt_zero _)), hown, hrow, hbel⟩
      case round =>
        obtain ⟨i, hi, rfl, hall, howi, hroi, hbei⟩ := hrel
        have BI := hide ((unhide B1).trans ((unhide hbei).mono (by omega)))
        by_cases hil : i < rows.length
        · have hif : i < (firsts os ks.length).length := by rw [← unhide HRL]; exact hil
          have ca := (unhide hroi).cell hil
          rw [(unhide hst).cell0 hif] at ca
          obtain ⟨rb, rfl, hrb, hrc⟩ := unhide HR (by omega)
          obtain ⟨cr, _, hl60⟩ := hrc i hil
          have cr := ((unhide BI).cell (p := ⟨rb, i, none⟩) hrb).trans cr
          have hBQ : Hid (∀ m, Below wr.heap.size wr (wr.drewN m)) := fun m => bel_draws (Below.refl _ _) m
          have hNO : Hid (cn os ks ks.length rows i ks.length < (rows.getD i []).length → ¬ AllTaken os ks ks.length rows) := fun h ht => (left_at.1 (ht i hif)) h
          have hYES : Hid (¬ cn os ks ks.length rows i ks.length < (rows.getD i []).length → ∀ q, q < i + 1 → ¬ cn os ks ks.length rows q ks.length < (rows.getD q []).length) := fun h q hq => by
            by_cases e : q < i
            · exact unhide hall q e
            · obtain rfl : q = i := by omega
              exact h
          have hml := (rm_cnt os ks (nd os ks.length i) (rows.getD i []) ks.length).2
          have hm : cn os ks ks.length rows i ks.length ≤ (rows.getD i []).length := hml
          generalize cn os ks ks.length rows i ks.length = m at ca hNO hYES hm
          generalize (rows.getD i []).length = rl at cr hNO hYES hm hl60
          generalize (f i).1 = fa at cr
          generalize (f i).2 = fc at cr
          clear hrc hml
          by_cases hlt2 : m < rl
          · have hR := hide (unhide hNO hlt2)
            have hlt' : (m : Int) < (rl : Int) := by omega
            clear hNO hYES
            go_wp2_with fail
            go_quiet (fail)
            generalize hwq : wr.drewN _ = wq
            have hb : Below wr.heap.size wr wq := by rw [← hwq]; exact unhide hBQ _
            have BQ := hide ((unhide BI).trans (hb.mono (unhide BI).size))
            clear hb hwq ca cr
            go_wp2
            go_ret2
            exact mg_no (unhide BQ) (unhide hR)
          · have HY := hide (unhide hYES hlt2)
            have hlt' : ¬ (m : Int) < (rl : Int) := by omega
            clear hNO hYES
            go_wp2_with fail
            go_quiet (fail)
            generalize hwq : wr.drewN _ = wq
            have hb : Below wr.heap.size wr wq := by rw [← hwq]; exact unhide hBQ _
            have hz : go ≤ wr.heap.size := by have h1 := (unhide hbei).size; have h2 : w1.heap.size = go := unhide HGO; omega
            have BQ := hide ((unhide hbei).trans (hb.mono hz))
            have OQ := hide (Own.own_below (unhide howi) hb (Nat.le_refl _))
            have RQ := hide ((unhide hroi).below hb (unhide hroi).lt)
            clear hb hwq ca cr
            go_wp2
            go_roundw
            case rel => exact ⟨i + 1, by omega, by go_num, HY, OQ, RQ, BQ⟩
            case measure => simp [intOf]; omega
        · obtain rfl : i = rows.length := by omega
          have HT : Hid (AllTaken os ks ks.length rows) := fun q hq => left_at.2 (unhide hall q (by rw [unhide HRL]; exact hq))
          go_wp2
          go_ret2
          exact mg_yes (Own.own_le (unhide howi) (by omega)) (unhide BI) (unhide HALL) (unhide HT)
end Merge
end Go.Proofs.YtghckjmpcokhcaaGreatDoor
