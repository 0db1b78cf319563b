/-
  The program's OpenIds and the model's: the ids of the slots that are not done.
-/
import Derived.Test.YtmbkdejlbeailaaSessI
import Derived.Test.YtmbkdejlbeailaaSessS
import Derived.Test.YtmbkdejlbeailaaSessB
import Derived.Test.YtmbkdejlbeailaaRndO
import Derived.Test.YtmbkdejlbeailaaRndI
import Derived.Deep.DeepCutAuto
namespace Go.Proofs.Ytmbkdejlbeailaa
namespace Sess
open Go.RowKit Base Slots Marks Rnd OwnR
set_option linter.unusedVariables false

def idsR (nx : Int) (l : List D) : List Int := if gsB nx l = true then openL l else []
def IdsEnd (L : List Int) (ok : Bool) (w : World) (e : Ending) (w' : World) : Prop := ∃ a c r, e = .returned (.tuple #[.slice a L.length c, .bool ok]) ∧ IntsM.Ours w' a L.length (Ints.ncell L) r ∧ (∀ g, r = some g → w.heap.size ≤ g) ∧ Below w.heap.size w w'
theorem ids_len (nx : Int) (l : List D) : (idsR nx l).length ≤ l.length := by
  unfold idsR
  split
  · exact openL_len l
  · simp
theorem ids_own {w w' : World} {B : Nat} {a : Option Addr} {c : Nat} {L : List Int} {ok : Bool} (h : OwnI w' B (.slice a L.length c) L) (hB : w.heap.size ≤ B) (hb : Below w.heap.size w w') : IdsEnd L ok w (.returned (.tuple #[.slice a L.length c, .bool ok])) w' := by
  obtain ⟨r, h1, h2⟩ := Ints.own_ints h
  exact ⟨a, c, r, rfl, h1, fun g e => Nat.le_trans hB (h2 g e), hb⟩
theorem ids_none {w w' : World} {ok : Bool} (hb : Below w.heap.size w w') : IdsEnd [] ok w (.returned (.tuple #[.slice none 0 0, .bool ok])) w' := ⟨none, 0, none, rfl, .inl ⟨rfl, rfl⟩, fun g e => by simp at e, hb⟩

set_option maxRecDepth 10000 in
set_option maxHeartbeats 2000000 in
theorem idsI_some (nx : Int) (b off cap : Nat) (l : List D) (w : World) (hb : b < w.heap.size) (hc : ∀ i, i < l.length → At w b (off + i * 3) (l.getD i zero)) (hl : l.length ≤ 1048576) (hcap : l.length ≤ cap) :
    Calls Try.prog 20 #[.agg #[.int .i64 nx, .slice (some ⟨b, off, none⟩) l.length cap]] w (IdsEnd (idsR nx l) (gsB nx l) w) := by
  have hgood := fun w' (hb' : Below w.heap.size w w') => impl_some nx b off cap l w' (Nat.lt_of_lt_of_le hb hb'.size) (fun i hi => (hc i hi).below hb' hb) hl hcap
  have hrnd := fun hl' w' (hb' : Below w.heap.size w w') => roundOf_some nx b off cap l w' (Nat.lt_of_lt_of_le hb hb'.size) (fun i hi => (hc i hi).below hb' hb) hl' hcap
  have HRN := hide hrnd
  clear hc hrnd
  unfold idsR
  cases g1 : gsB nx l
  · rw [if_neg (by simp)]
    rw [g1] at hgood
    have HG := hide hgood
    clear hgood g1 HRN
    go_enter Try.func20, Try.ntmps20
    go_wp2_with fail
    refine (unhide HG _ (bel1 w _)).mono ?_
    rintro e w1 ⟨rfl, hb1⟩
    have B1 := hide ((bel1 w _).trans (hb1.mono (by simp)))
    clear hb1
    go_wp2
    go_ret2
    exact ids_none (unhide B1)
  rw [if_pos rfl]
  obtain ⟨hn0, hn1, hl30⟩ := gs_nx g1
  rw [g1] at hgood
  have HG := hide hgood
  clear hgood g1
  go_enter Try.func20, Try.ntmps20
  go_wp2_with fail
  refine (unhide HG _ (bel1 w _)).mono ?_
  rintro e w1 ⟨rfl, hb1⟩
  rw [World.size_alloc] at hb1
  have X1 := hide ((bx_new w nx (.slice (some ⟨b, off, none⟩) l.length cap)).below hb1 (by omega))
  have B1 := hide ((bel1 w _).trans (hb1.mono (by omega)))
  clear hb1
  obtain ⟨x0, x1, xf, xz⟩ := unhide X1
  go_wp2_with fail
  refine (unhide HRN hl30 _ (unhide B1)).mono ?_
  rintro e w2 ⟨g, rfl, hg, hR2, hb2⟩
  have R2 := hide hR2
  have B2 := hide ((unhide B1).trans (hb2.mono (unhide B1).size))
  clear hb2 hR2 x0 x1 xf xz X1
  go_wp2_with fail
  refine (openIds_any g 0 nx l _ (unhide R2)).mono ?_
  rintro e w3 ⟨a3, c3, rfl, ho3, hb3⟩
  have HE : Hid (IdsEnd (openL l) true w (.returned (.tuple #[.slice a3 (openL l).length c3, .bool true])) w3) := ids_own ho3 (unhide B2).size ((unhide B2).trans (hb3.mono (unhide B2).size))
  clear ho3 hb3
  generalize (openL l).length = n3 at HE ⊢
  go_wp2
  go_ret2
  exact unhide HE

set_option maxRecDepth 10000 in
set_option maxHeartbeats 2000000 in
theorem idsS_some (nx : Int) (b off cap : Nat) (l : List D) (w : World) (hb : b < w.heap.size) (hc : ∀ i, i < l.length → At w b (off + i * 3) (l.getD i zero)) (hl : l.length ≤ 1048576) (hcap : l.length ≤ cap) :
    Calls Try.prog 19 #[.agg #[.int .i64 nx, .slice (some ⟨b, off, none⟩) l.length cap]] w (IdsEnd (idsR nx l) (gsB nx l) w) := by
  have hgood := fun w' (hb' : Below w.heap.size w w') => spec_some nx b off cap l w' (Nat.lt_of_lt_of_le hb hb'.size) (fun i hi => (hc i hi).below hb' hb) (by unfold maxLen; omega) hcap
  have HC := hide (fun w' (hb' : Below w.heap.size w w') i hi => (hc i hi).below hb' hb)
  clear hc
  unfold idsR
  cases g1 : gsB nx l
  · rw [if_neg (by simp)]
    rw [g1] at hgood
    have HG := hide hgood
    clear hgood g1
    go_enter Try.func19, Try.ntmps19
    go_wp2_with fail
    refine (unhide HG _ (bel1 w _)).mono ?_
    rintro e w1 ⟨rfl, hb1⟩
    have B1 := hide ((bel1 w _).trans (hb1.mono (by simp)))
    clear hb1
    go_wp2
    go_ret2
    exact ids_none (unhide B1)
  rw [if_pos rfl]
  obtain ⟨hn0, hn1, hl30⟩ := gs_nx g1
  rw [g1] at hgood
  have HG := hide hgood
  obtain ⟨i0, hi, hz0, hz1, hz2⟩ := Ints.info_ex
  have HI := hide hi
  have HZ0 := hide hz0
  have HZ1 := hide hz1
  have HZ2 := hide hz2
  have HT := hide (openL_take l)
  have HL := hide (fun k => openL_len (l.take k))
  have HALL := hide (openL_all l)
  clear hgood g1 hi hz0 hz1 hz2
  go_enter Try.func19, Try.ntmps19
  go_wp2_with fail
  refine (unhide HG _ (bel1 w _)).mono ?_
  rintro e w1 ⟨rfl, hb1⟩
  rw [World.size_alloc] at hb1
  have X1 := hide ((bx_new w nx (.slice (some ⟨b, off, none⟩) l.length cap)).below hb1 (by omega))
  have B1 := hide ((bel1 w _).trans (hb1.mono (by omega)))
  clear hb1
  obtain ⟨x0, x1, xf, xz⟩ := unhide X1
  go_wp2
  clear x0 x1 xf xz X1
  go_loopw [4, 13] (fun sv iv wr => ∃ (k : Nat) (v : Value), k ≤ l.length ∧ v = sv ∧ iv = .int .i64 k ∧ Hid (OwnI wr w1.heap.size v (openL (l.take k))) ∧ Hid (Below w1.heap.size w1 wr)) (fun _ iv _ => l.length - (intOf iv).toNat)
  case atStart => exact ⟨0, _, Nat.zero_le _, rfl, rfl, hide (World.ownsRow_nil _ _ _ _), hide (Below.refl _ _)⟩
  case round =>
    obtain ⟨k, v, hk, hv, rfl, hown, hbel⟩ := hrel
    subst hv
    by_cases hkl : k < l.length
    · have hBw := hide ((unhide B1).trans ((unhide hbel).mono (unhide B1).size))
      obtain ⟨d0, d1, d2⟩ := unhide HC _ (unhide hBw) k hkl
      have hbw : b < wr.heap.size := Nat.lt_of_lt_of_le hb (unhide hBw).size
      have ht := unhide HT k hkl
      have hn : (openL (l.take k)).length ≤ 30 := by
        have := unhide HL k
        have : (l.take k).length ≤ l.length := List.length_take_le' k l
        omega
      generalize l.getD k zero = x at d0 d1 d2 ht
      generalize openL (l.take k) = kept at hown ht hn
      obtain ⟨xi, xd, xa⟩ := x
      dsimp only at d0 d1 d2 ht
      have hs := (unhide hbel).size
      cases xd
      · have HT1 := hide (ht.trans (if_neg (by simp)))
        clear ht
        have B2 := hide ((unhide hbel).alloc hs (.cells #[.int .i64 xi, .bool false, .string xa] 55))
        have O2 := hide ((unhide hown).alloc (.cells #[.int .i64 xi, .bool false, .string xa] 55))
        have e0 : (wr.alloc (.cells #[.int .i64 xi, .bool false, .string xa] 55)).cell? ⟨wr.heap.size, 0, none⟩ = some (.int .i64 xi) := by go_simp
        have e1 : (wr.alloc (.cells #[.int .i64 xi, .bool false, .string xa] 55)).cell? ⟨wr.heap.size, 1, none⟩ = some (.bool false) := by go_simp
        have hs2 := (unhide B2).size
        go_upto_region 7 with fail
        generalize wr.alloc (.cells #[.int .i64 xi, .bool false, .string xa] 55) = w2 at B2 O2 e0 e1 hs2 ⊢
        go_wp2_with (at_builtin; go_loud (refine wpList_append_own _ rfl _ _ 39 rfl w1.heap.size 3 i0 _ 1 8 Try.underlying39 (unhide HI) (unhide HZ0) (unhide HZ1) (unhide HZ2) rfl (by decide) _ _ _ rfl ((unhide O2).alloc _) ⟨w2.heap.size, 0, none⟩ 1 1 [.int .i64 xi] rfl rfl ?c1 ?c2 ?c3 ?c4 ?c5 ?_))
        case c1 => exact Ints.news_cells w2 xi _
        case c2 => exact Ints.news_one xi
        case c3 => unfold maxLen; omega
        case c4 => omega
        case c5 => simp; omega
        intro v' w3 hown' hgrow _
        have O3 := hide (Ints.own_snoc (kept' := kept ++ [xi]) hown' rfl)
        have B3 := hide (((unhide B2).alloc hs2 _).grown hgrow (by simp; omega) (fun g e => own_block (unhide O2) g e))
        clear hown' hgrow
        go_wp2
        go_roundw
        case rel => exact ⟨k + 1, _, by omega, rfl, by go_num, hide (by rw [unhide HT1]; exact unhide O3), B3⟩
        case measure => simp [intOf]; omega
      · have HT1 := hide (ht.trans (if_pos rfl))
        clear ht
        have B2 := hide (fun o => (unhide hbel).alloc hs o)
        have O2 := hide (fun o => (unhide hown).alloc o)
        go_wp2
        go_roundw
        case rel => exact ⟨k + 1, _, by omega, rfl, by go_num, hide (by rw [unhide HT1]; exact unhide O2 _), hide (unhide B2 _)⟩
        case measure => simp [intOf]; omega
    · obtain rfl : k = l.length := by omega
      rw [unhide HALL] at hown
      obtain ⟨a3, c3, hv3⟩ := own_form (unhide hown)
      subst hv3
      have HE : Hid (IdsEnd (openL l) true w (.returned (.tuple #[.slice a3 (openL l).length c3, .bool true])) wr) := ids_own (unhide hown) (unhide B1).size ((unhide B1).trans ((unhide hbel).mono (unhide B1).size))
      clear hown
      generalize (openL l).length = n3 at HE ⊢
      go_wp2
      go_ret2
      exact unhide HE
end Sess
end Go.Proofs.Ytmbkdejlbeailaa
