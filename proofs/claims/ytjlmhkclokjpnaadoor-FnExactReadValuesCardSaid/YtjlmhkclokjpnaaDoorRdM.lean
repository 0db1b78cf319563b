/-
  The program's ReadValues: the items of which this is the text.
-/
import Derived.Test.YtjlmhkclokjpnaaDoorRdL
import Derived.Test.YtjlmhkclokjpnaaDoorOwnItems
import Derived.Laws.AppendOwn
namespace Go.Proofs.YtjlmhkclokjpnaaDoor
namespace Rd
open Go.RowKit Base Items Store GoodKey NumText Sp Count Vals Marks Own
set_option linter.unusedVariables false

def strLen : Value → Nat
  | .string s => s.size
  | _ => 0
theorem info_item : ∃ i, Tryd.prog.info? 71 = some i ∧ i.zero = some (.agg #[.string ByteArray.empty, .int .i64 0, .string ByteArray.empty, .int .i64 0, .int .i64 0]) ∧ i.size = 5 ∧ i.bytes = 56 := by
  have h : (Tryd.prog.info? 71).map (fun i => (i.zero, i.size, i.bytes)) = some (some (.agg #[.string ByteArray.empty, .int .i64 0, .string ByteArray.empty, .int .i64 0, .int .i64 0]), 5, 56) := by kernel_rfl
  obtain ⟨i, hi, hz⟩ := Option.map_eq_some_iff.1 h
  simp only [Prod.mk.injEq] at hz
  exact ⟨i, hi, hz.1, hz.2.1, hz.2.2⟩
theorem last_ne {a : ByteArray} (h : a ≠ lastS) : (a.toList == [69, 78, 68, 13, 10]) = false := by
  have e : lastS.toList = [69, 78, 68, 13, 10] := by rw [Lib.toList_data]; rfl
  rw [← e]; exact str_ne h
theorem last_eq {a : ByteArray} (h : a = lastS) : (a.toList == [69, 78, 68, 13, 10]) = true := by
  have e : lastS.toList = [69, 78, 68, 13, 10] := by rw [Lib.toList_data]; rfl
  rw [← e]; exact str_eq h
/-- How ReadValues ends. -/
def RdEnd (s : ByteArray) (token : Bool) (w : World) (e : Ending) (w' : World) : Prop :=
  ∃ v its ok, e = .returned (.tuple #[v, .bool ok]) ∧ w'.ownsRow w.heap.size 71 5 v its.length (flat its) ∧ Below w.heap.size w w' ∧ ((ok = true ∧ rdR s token = some its) ∨ (ok = false ∧ its = [] ∧ rdR s token = none))
theorem fives (w : World) (t : TypeId) (v0 v1 v2 v3 v4 : Value) : (w.alloc (.cells #[v0, v1, v2, v3, v4] t)).cell? ⟨w.heap.size, 0, none⟩ = some v0 ∧ (w.alloc (.cells #[v0, v1, v2, v3, v4] t)).cell? ⟨w.heap.size, 1, none⟩ = some v1 ∧
    (w.alloc (.cells #[v0, v1, v2, v3, v4] t)).cell? ⟨w.heap.size, 2, none⟩ = some v2 ∧ (w.alloc (.cells #[v0, v1, v2, v3, v4] t)).cell? ⟨w.heap.size, 3, none⟩ = some v3 ∧ (w.alloc (.cells #[v0, v1, v2, v3, v4] t)).cell? ⟨w.heap.size, 4, none⟩ = some v4 := by
  refine ⟨?_, ?_, ?_, ?_, ?_⟩ <;> (rw [World.cell?_alloc_new]; rfl)

set_option maxRecDepth 10000 in
set_option maxHeartbeats 4000000 in
theorem impl_any (s : ByteArray) (token : Bool) (w : World) (hs : s.size ≤ 1048576) (hv : V2 w) :
    Calls Tryd.prog 20 #[.string s, .bool token] w (RdEnd s token w) := by
  have HV := hide hv
  have HRV := hide (fun cur w' (h : cur.size ≤ 1048576) hv => readValue_any cur token w' h hv)
  obtain ⟨i0, hi, hz0, hz1, hz2⟩ := info_item
  have HI := hide hi
  have HZ0 := hide hz0
  have HZ1 := hide hz1
  have HZ2 := hide hz2
  have HF0 := hide (far_start s token)
  clear hi hz0 hz1 hz2 hv
  show Calls _ _ _ w (fun e w' => RdEnd s token w e w')
  unfold RdEnd
  go_enter Tryd.func20, Tryd.ntmps20
  go_wp2
  go_loopw [0, 6] (fun sv v wr => ∃ (cur : ByteArray) (its : List Itm), sv = .string cur ∧ cur.size ≤ 1048576 ∧ its.length ≤ 60 ∧ Hid (Far s token its cur) ∧ Hid (wr.ownsRow w.heap.size 71 5 v its.length (flat its)) ∧ Hid (Below w.heap.size w wr)) (fun sv _ _ => strLen sv)
  case atStart => exact ⟨s, [], rfl, hs, Nat.zero_le _, HF0, hide (World.ownsRow_nil _ _ _ _), hide (Below.refl _ _)⟩
  case round =>
    clear HF0
    obtain ⟨cur, its, rfl, hcz, hil, hfar, hown, hbel⟩ := hrel
    obtain ⟨va, vc, rfl⟩ := own_form (unhide hown)
    by_cases e1 : cur = lastS
    · have hR := hide (far_done (by have := unhide hfar; rw [e1] at this; exact this))
      have e1' := last_eq e1
      clear e1
      go_wp2
      go_ret2
      exact ⟨_, its, true, rfl, unhide hown, unhide hbel, .inl ⟨rfl, unhide hR⟩⟩
    · have e1' := last_ne e1
      have HST := hide (fun h => far_stuck (unhide hfar) e1 h)
      have HFU := hide (fun h => far_full (unhide hfar) e1 h)
      have HNE := hide (fun x r h h' => far_step (x := x) (r := r) (unhide hfar) h h')
      clear e1
      have hc := unhide HRV cur wr hcz ((unhide HV).below (unhide hbel))
      have hzw := (unhide hbel).size
      cases hq : rv cur token with
      | none =>
        rw [hq] at hc
        have HC := hide hc
        have hR := hide (unhide HST hq)
        clear hc hq HST HFU HNE
        unfold rvV at HC
        go_wp2_with fail
        refine (unhide HC).mono ?_
        rintro e w1 ⟨rfl, hb1⟩
        have B1 := hide ((unhide hbel).trans (hb1.mono hzw))
        clear hb1 HC
        go_wp2
        go_ret2
        exact ⟨_, [], false, rfl, World.ownsRow_nil _ _ _ _, (unhide B1).trans ((bel1 w1 _).mono (unhide B1).size), .inr ⟨rfl, rfl, unhide hR⟩⟩
      | some p =>
        obtain ⟨x, r⟩ := p
        rw [hq] at hc
        have HC := hide hc
        by_cases h60 : its.length = 60
        · have hR := hide (unhide HFU h60)
          clear hc hq HST HFU HNE
          unfold rvV at HC
          have h60' : (its.length : Int) = 60 := by omega
          go_wp2_with fail
          refine (unhide HC).mono ?_
          rintro e w1 ⟨rfl, hb1⟩
          have B1 := hide ((unhide hbel).trans (hb1.mono hzw))
          clear hb1 HC
          go_wp2
          go_ret2
          exact ⟨_, [], false, rfl, World.ownsRow_nil _ _ _ _, (unhide B1).trans ((bel1 w1 _).mono (unhide B1).size), .inr ⟨rfl, rfl, unhide hR⟩⟩
        · obtain ⟨hf2, hlt⟩ := unhide HNE x r h60 hq
          have HF2 := hide hf2
          have h60' : ¬ (its.length : Int) = 60 := by omega
          clear hc hq HST HFU HNE hf2
          unfold rvV at HC
          go_wp2_with fail
          refine (unhide HC).mono ?_
          rintro e w1 ⟨rfl, hb1⟩
          have B1 := hide ((unhide hbel).trans (hb1.mono hzw))
          have O1 := hide (own_below (unhide hown) hb1 (Nat.le_refl _))
          have hz1 := (unhide B1).size
          clear hb1 HC
          obtain ⟨k0, k1, k2, k3, k4⟩ := fives w1 71 (.string x.key) (.int .i64 x.flags) (.string x.data) (.int .i64 x.upto) (.int .i64 x.token)
          have O2 := hide (own_below (unhide O1) (bel1 w1 (.cells #[.string x.key, .int .i64 x.flags, .string x.data, .int .i64 x.upto, .int .i64 x.token] 71)) (Nat.le_refl _))
          have hsz : (w1.alloc (.cells #[.string x.key, .int .i64 x.flags, .string x.data, .int .i64 x.upto, .int .i64 x.token] 71)).heap.size = w1.heap.size + 1 := World.size_alloc _ _
          go_upto_region 6 with fail
          generalize hw2 : w1.alloc (.cells #[.string x.key, .int .i64 x.flags, .string x.data, .int .i64 x.upto, .int .i64 x.token] 71) = w2 at k0 k1 k2 k3 k4 O2 hsz ⊢
          have B2 : Hid (Below w.heap.size w w2) := by rw [← hw2]; exact (unhide B1).trans ((bel1 w1 _).mono (unhide B1).size)
          have hz2 := (unhide B2).size
          clear hw2 hsz
          go_wp2_with (at_builtin; go_loud (refine wpList_append_own _ rfl _ _ 38 rfl w.heap.size 71 i0 _ 5 56 Tryd.underlying38 (unhide HI) (unhide HZ0) (unhide HZ1) (unhide HZ2) rfl (by decide) _ _ _ rfl ((unhide O2).alloc _) ⟨w2.heap.size, 0, none⟩ 1 1 (cellsOf x) rfl rfl ?c1 ?c2 ?c3 ?c4 ?c5 ?_))
          case c1 => exact news_cells w2 x _
          case c2 => exact news_one x
          case c3 => unfold maxLen; omega
          case c4 => omega
          case c5 => simp; omega
          intro v' w3 hown' hgrow _
          have O3 : Hid (w3.ownsRow w.heap.size 71 5 v' (its ++ [x]).length (flat (its ++ [x]))) := own_snoc hown' rfl
          have B3 := hide (((unhide B2).alloc (by omega) _).grown hgrow (by simp; omega) (own_block (unhide O2)))
          clear hown' hgrow
          go_wp2
          go_roundw
          case rel => exact ⟨r, its ++ [x], rfl, by omega, by rw [List.length_append]; simp; omega, HF2, O3, B3⟩
          case measure => simp [strLen]; omega
end Rd
end Go.Proofs.YtjlmhkclokjpnaaDoor
