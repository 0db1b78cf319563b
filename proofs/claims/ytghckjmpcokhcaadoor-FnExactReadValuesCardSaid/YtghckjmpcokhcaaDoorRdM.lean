/-
  The program's ReadValues: the items of which this is the text.
-/
import Derived.Test.YtghckjmpcokhcaaDoorRdL
import Derived.Test.YtghckjmpcokhcaaDoorOwnItemsA
import Derived.Laws.AppendOwn
namespace Go.Proofs.YtghckjmpcokhcaaDoor
namespace Rd
open Go.RowKit Base Items Store GoodKey NumText Sp Count Vals Marks Own
set_option linter.unusedVariables false

def strLen : Value → Nat
  | .string s => s.size
  | _ => 0
theorem info_item : ∃ i, Tryd.prog.info? 32 = some i ∧ i.zero = some (.agg #[.string ByteArray.empty, .int .i64 0, .string ByteArray.empty, .int .i64 0, .int .i64 0]) ∧ i.size = 5 ∧ i.bytes = 56 := by
  have h : (Tryd.prog.info? 32).map (fun i => (i.zero, i.size, i.bytes)) = some (some (.agg #[.string ByteArray.empty, .int .i64 0, .string ByteArray.empty, .int .i64 0, .int .i64 0]), 5, 56) := by kernel_rfl
  obtain ⟨i, hi, hz⟩ := Option.map_eq_some_iff.1 h
  simp only [Prod.mk.injEq] at hz
  exact ⟨i, hi, hz.1, hz.2.1, hz.2.2⟩
/-- How ReadValues ends. -/
def RdEnd (s : ByteArray) (token : Bool) (w : World) (e : Ending) (w' : World) : Prop :=
  ∃ v its ok, e = .returned (.tuple #[v, .bool ok]) ∧ w'.ownsRow w.heap.size 32 5 v its.length (flat its) ∧ Below w.heap.size w w' ∧ ((ok = true ∧ rdR s token = some its) ∨ (ok = false ∧ its = [] ∧ rdR s token = none))
theorem fives (w : World) (t : TypeId) (v0 v1 v2 v3 v4 : Value) : (w.alloc (.cells #[v0, v1, v2, v3, v4] t)).cell? ⟨w.heap.size, 0, none⟩ = some v0 ∧ (w.alloc (.cells #[v0, v1, v2, v3, v4] t)).cell? ⟨w.heap.size, 1, none⟩ = some v1 ∧
    (w.alloc (.cells #[v0, v1, v2, v3, v4] t)).cell? ⟨w.heap.size, 2, none⟩ = some v2 ∧ (w.alloc (.cells #[v0, v1, v2, v3, v4] t)).cell? ⟨w.heap.size, 3, none⟩ = some v3 ∧ (w.alloc (.cells #[v0, v1, v2, v3, v4] t)).cell? ⟨w.heap.size, 4, none⟩ = some v4 := by
  refine ⟨?_, ?_, ?_, ?_, ?_⟩ <;> (rw [World.cell?_alloc_new]; rfl)

theorem pre_iff (cur : ByteArray) : Lib.hasPrefix cur.data.toList lastS.data.toList = true ↔ ∃ r, cur.data.toList = [69, 78, 68, 13, 10] ++ r := by
  unfold Lib.hasPrefix
  rw [List.isPrefixOf_iff_prefix]
  constructor
  · rintro ⟨r, hr⟩
    exact ⟨r, hr.symm⟩
  · rintro ⟨r, hr⟩
    exact ⟨r, hr.symm⟩
theorem pre_last : Lib.hasPrefix lastS.data.toList lastS.data.toList = true := (pre_iff _).2 ⟨[], rfl⟩
theorem ba_ext {a b : ByteArray} (h : a.data.toList = b.data.toList) : a = b := by
  cases a; cases b
  simp only [ByteArray.mk.injEq]
  exact Array.ext' h
/-- What is behind the end. -/
def behind (cur : ByteArray) : ByteArray := ⟨(Lib.trimPrefix cur.data.toList lastS.data.toList).toArray⟩
theorem behind_none {cur : ByteArray} (h : Lib.hasPrefix cur.data.toList lastS.data.toList = true) : behind cur = ByteArray.empty ↔ cur = lastS := by
  obtain ⟨r, hr⟩ := (pre_iff cur).1 h
  have e : (behind cur).data.toList = r := by
    unfold behind Lib.trimPrefix
    rw [if_pos h, hr]
    rfl
  constructor
  · intro h0
    rw [h0] at e
    apply ba_ext
    rw [hr, ← e]
    rfl
  · intro h0
    apply ba_ext
    rw [e]
    rw [h0] at hr
    have : ([69, 78, 68, 13, 10] : List UInt8) = [69, 78, 68, 13, 10] ++ r := hr
    have h5 : r = [] := by simpa using this
    rw [h5]; rfl
theorem val_head (x : Itm) (token : Bool) (b : ByteArray) : ∃ t, (Shelf.valueR x token ++ b).data.toList = 86 :: t := by
  refine ⟨[65, 76, 85, 69, 32] ++ ((Shelf.valueR x token ++ b).data.toList.drop 6), ?_⟩
  have e : ∃ y : ByteArray, Shelf.valueR x token ++ b = Shelf.valueS ++ y := by
    unfold Shelf.valueR Shelf.lineR
    cases token
    · exact ⟨x.key ++ (Shelf.blankS ++ (txt x.flags.toNat ++ (Shelf.blankS ++ (txt x.data.size ++ (Shelf.endS ++ (x.data ++ (Shelf.endS ++ b))))))), by simp [ByteArray.append_assoc]⟩
    · exact ⟨x.key ++ (Shelf.blankS ++ (txt x.flags.toNat ++ (Shelf.blankS ++ (txt x.data.size ++ (Shelf.blankS ++ (txt x.token.toNat ++ (Shelf.endS ++ (x.data ++ (Shelf.endS ++ b))))))))), by simp [ByteArray.append_assoc]⟩
  obtain ⟨y, hy⟩ := e
  rw [hy]
  have e2 : (Shelf.valueS ++ y).data.toList = [86, 65, 76, 85, 69, 32] ++ y.data.toList := by rw [ByteArray.data_append, Array.toList_append]; rfl
  rw [e2]
  rfl
/-- Where more than the end is there nothing can be read. -/
theorem far_more {s cur : ByteArray} {token : Bool} {its : List Itm} (h : Far s token its cur) (hp : Lib.hasPrefix cur.data.toList lastS.data.toList = true) (hne : cur ≠ lastS) : rdR s token = none := by
  refine rdR_none (fun L hL => ?_)
  obtain ⟨L', e1, e2⟩ := prefix_of h.ok hL.ok (by rw [hL.txt, ← h.txt])
  cases L' with
  | nil => exact hne (by rw [e2]; simp [told])
  | cons y L' =>
    rw [told_cons, ByteArray.append_assoc] at e2
    obtain ⟨t, ht⟩ := val_head y token (told token L' ++ lastS)
    obtain ⟨r, hr⟩ := (pre_iff cur).1 hp
    rw [e2, ht] at hr
    simp at hr
/-- How readValues ends. -/
def RsEnd (s : ByteArray) (token : Bool) (w : World) (e : Ending) (w' : World) : Prop :=
  ∃ v its rest ok, e = .returned (.tuple #[v, .string rest, .bool ok]) ∧ w'.ownsRow w.heap.size 32 5 v its.length (flat its) ∧ Below w.heap.size w w' ∧ ((ok = true ∧ ((rest = ByteArray.empty ∧ rdR s token = some its) ∨ (rest ≠ ByteArray.empty ∧ rdR s token = none))) ∨ (ok = false ∧ its = [] ∧ rest = ByteArray.empty ∧ rdR s token = none))

set_option maxRecDepth 10000 in
set_option maxHeartbeats 4000000 in
theorem reads_any (s : ByteArray) (token : Bool) (w : World) (hs : s.size ≤ 1048576) (hv : V2 w) :
    Calls Tryd.prog 10 #[.string s, .bool token, .int .i64 60] w (RsEnd s token w) := by
  have HV := hide hv
  have HRV := hide (fun cur w' (h : cur.size ≤ 1048576) hv => readValue_any cur token w' h hv)
  have HCP : Hid (∀ cur u, Calls Tryd.prog 17 #[.string cur, .string lastS] u fun e u' => e = .returned (.tuple #[.string (behind cur), .bool (Lib.hasPrefix cur.data.toList lastS.data.toList)]) ∧ u' = u) := fun cur u => Tryd.strings_CutPrefix cur lastS u
  obtain ⟨i0, hi, hz0, hz1, hz2⟩ := info_item
  have HI := hide hi
  have HZ0 := hide hz0
  have HZ1 := hide hz1
  have HZ2 := hide hz2
  have HF0 := hide (far_start s token)
  clear hi hz0 hz1 hz2 hv
  show Calls _ _ _ w (fun e w' => RsEnd s token w e w')
  unfold RsEnd
  go_enter Tryd.func10, Tryd.ntmps10
  go_wp2_with fail
  go_loopw [0, 9] (fun sv v wr => ∃ (cur : ByteArray) (its : List Itm), sv = .string cur ∧ cur.size ≤ 1048576 ∧ its.length ≤ 60 ∧ Hid (Far s token its cur) ∧ Hid (wr.ownsRow w.heap.size 32 5 v its.length (flat its)) ∧ Hid (Below w.heap.size w wr)) (fun sv _ _ => strLen sv)
  case atStart => exact ⟨s, [], rfl, hs, Nat.zero_le _, HF0, hide (World.ownsRow_nil _ _ _ _), hide (Below.refl _ _)⟩
  case round =>
    clear HF0
    obtain ⟨cur, its, rfl, hcz, hil, hfar, hown, hbel⟩ := hrel
    obtain ⟨va, vc, rfl⟩ := own_form (unhide hown)
    have HCC := hide (unhide HCP cur wr)
    cases e0 : Lib.hasPrefix cur.data.toList lastS.data.toList with
    | true =>
      have hR : Hid ((behind cur = ByteArray.empty ∧ rdR s token = some its) ∨ (behind cur ≠ ByteArray.empty ∧ rdR s token = none)) := by
        by_cases e1 : cur = lastS
        · exact .inl ⟨(behind_none e0).2 e1, far_done (by have := unhide hfar; rw [e1] at this; exact this)⟩
        · exact .inr ⟨fun h => e1 ((behind_none e0).1 h), far_more (unhide hfar) e0 e1⟩
      rw [e0] at HCC
      clear e0
      generalize behind cur = bh at HCC hR
      go_wp2_with fail
      refine (unhide HCC).mono ?_
      rintro e w' ⟨rfl, hw'⟩
      rw [hw']
      clear hw' w' HCC
      go_wp2
      refine bodyPost_ret (v := .tuple #[.slice va its.length vc, .string bh, .bool true]) (by simp [results, Tryd.results10, go_sem]) rfl ⟨_, its, bh, true, rfl, unhide hown, unhide hbel, .inl ⟨rfl, unhide hR⟩⟩
    | false =>
      have e1 : cur ≠ lastS := fun h => by rw [h, pre_last] at e0; cases e0
      rw [e0] at HCC
      have HST := hide (fun h => far_stuck (unhide hfar) e1 h)
      have HFU := hide (fun h => far_full (unhide hfar) e1 h)
      have HNE := hide (fun x r h h' => far_step (x := x) (r := r) (unhide hfar) h h')
      clear e1 e0
      generalize behind cur = bh at HCC
      have hc := unhide HRV cur wr hcz ((unhide HV).below (unhide hbel))
      have hzw := (unhide hbel).size
      cases hq : rv cur token with
      | none =>
        rw [hq] at hc
        have HC := hide hc
        have hR := hide (unhide HST hq)
        clear hc hq HST HFU HNE
        unfold rvV at HC
        go_wp2_with fail
        refine (unhide HCC).mono ?_
        rintro e w' ⟨rfl, hw'⟩
        rw [hw']
        clear hw' w' HCC
        go_wp2_with fail
        refine (unhide HC).mono ?_
        rintro e w1 ⟨rfl, hb1⟩
        have B1 := hide ((unhide hbel).trans (hb1.mono hzw))
        clear hb1 HC
        go_wp2
        refine bodyPost_ret (v := .tuple #[.slice none 0 0, .string ByteArray.empty, .bool false]) (by simp [results, Tryd.results10, go_sem]; rfl) rfl ⟨_, [], ByteArray.empty, false, rfl, World.ownsRow_nil _ _ _ _, (unhide B1).trans ((bel1 w1 _).mono (unhide B1).size), .inr ⟨rfl, rfl, rfl, unhide hR⟩⟩
      | some p =>
        obtain ⟨x, r⟩ := p
        rw [hq] at hc
        have HC := hide hc
        by_cases h60 : its.length = 60
        · have hR := hide (unhide HFU h60)
          clear hc hq HST HFU HNE
          unfold rvV at HC
          have h60' : (its.length : Int) = 60 := by omega
          go_wp2_with fail
          refine (unhide HCC).mono ?_
          rintro e w' ⟨rfl, hw'⟩
          rw [hw']
          clear hw' w' HCC
          go_wp2_with fail
          refine (unhide HC).mono ?_
          rintro e w1 ⟨rfl, hb1⟩
          have B1 := hide ((unhide hbel).trans (hb1.mono hzw))
          clear hb1 HC
          go_wp2
          refine bodyPost_ret (v := .tuple #[.slice none 0 0, .string ByteArray.empty, .bool false]) (by simp [results, Tryd.results10, go_sem]; rfl) rfl ⟨_, [], ByteArray.empty, false, rfl, World.ownsRow_nil _ _ _ _, (unhide B1).trans ((bel1 w1 _).mono (unhide B1).size), .inr ⟨rfl, rfl, rfl, unhide hR⟩⟩
        · obtain ⟨hf2, hlt⟩ := unhide HNE x r h60 hq
          have HF2 := hide hf2
          have h60' : ¬ (its.length : Int) = 60 := by omega
          clear hc hq HST HFU HNE hf2
          unfold rvV at HC
          go_wp2_with fail
          refine (unhide HCC).mono ?_
          rintro e w' ⟨rfl, hw'⟩
          rw [hw']
          clear hw' w' HCC
          go_wp2_with fail
          refine (unhide HC).mono ?_
          rintro e w1 ⟨rfl, hb1⟩
          have B1 := hide ((unhide hbel).trans (hb1.mono hzw))
          have O1 := hide (own_below (unhide hown) hb1 (Nat.le_refl _))
          have hz1 := (unhide B1).size
          clear hb1 HC
          obtain ⟨k0, k1, k2, k3, k4⟩ := fives w1 32 (.string x.key) (.int .i64 x.flags) (.string x.data) (.int .i64 x.upto) (.int .i64 x.token)
          have O2 := hide (own_below (unhide O1) (bel1 w1 (.cells #[.string x.key, .int .i64 x.flags, .string x.data, .int .i64 x.upto, .int .i64 x.token] 32)) (Nat.le_refl _))
          have hsz : (w1.alloc (.cells #[.string x.key, .int .i64 x.flags, .string x.data, .int .i64 x.upto, .int .i64 x.token] 32)).heap.size = w1.heap.size + 1 := World.size_alloc _ _
          go_upto_region 6 with fail
          generalize hw2 : w1.alloc (.cells #[.string x.key, .int .i64 x.flags, .string x.data, .int .i64 x.upto, .int .i64 x.token] 32) = w2 at k0 k1 k2 k3 k4 O2 hsz ⊢
          have B2 : Hid (Below w.heap.size w w2) := by rw [← hw2]; exact (unhide B1).trans ((bel1 w1 _).mono (unhide B1).size)
          have hz2 := (unhide B2).size
          clear hw2 hsz
          go_wp2_with (at_builtin; go_loud (refine wpList_append_own _ rfl _ _ 22 rfl w.heap.size 32 i0 _ 5 56 Tryd.underlying22 (unhide HI) (unhide HZ0) (unhide HZ1) (unhide HZ2) rfl (by decide) _ _ _ rfl ((unhide O2).alloc _) ⟨w2.heap.size, 0, none⟩ 1 1 (cellsOf x) rfl rfl ?c1 ?c2 ?c3 ?c4 ?c5 ?_))
          case c1 => exact news_cells w2 x _
          case c2 => exact news_one x
          case c3 => unfold maxLen; omega
          case c4 => omega
          case c5 => simp; omega
          intro v' w3 hown' hgrow _
          have O3 : Hid (w3.ownsRow w.heap.size 32 5 v' (its ++ [x]).length (flat (its ++ [x]))) := own_snoc hown' rfl
          have B3 := hide (((unhide B2).alloc (by omega) _).grown hgrow (by simp; omega) (own_block (unhide O2)))
          clear hown' hgrow
          go_wp2
          go_roundw
          case rel => exact ⟨r, its ++ [x], rfl, by omega, by rw [List.length_append]; simp; omega, HF2, O3, B3⟩
          case measure => simp [strLen]; omega

set_option maxRecDepth 10000 in
set_option maxHeartbeats 1000000 in
theorem impl_any (s : ByteArray) (token : Bool) (w : World) (hs : s.size ≤ 1048576) (hv : V2 w) :
    Calls Tryd.prog 5 #[.string s, .bool token] w (RdEnd s token w) := by
  have HR := hide (reads_any s token w hs hv)
  clear hv
  show Calls _ _ _ w (fun e w' => RdEnd s token w e w')
  unfold RdEnd
  go_enter Tryd.func5, Tryd.ntmps5
  go_wp2_with fail
  refine (unhide HR).mono ?_
  rintro e w1 ⟨v, its, rest, ok, rfl, ho, hb, hend⟩
  have HO := hide ho
  have HB := hide hb
  obtain ⟨va, vc, rfl⟩ := own_form ho
  clear ho hb HR
  rcases hend with ⟨rfl, hd⟩ | ⟨rfl, rfl, rfl, hd⟩
  · rcases hd with ⟨rfl, hd⟩ | ⟨hne, hd⟩
    · have HD := hide hd
      have he : (ByteArray.empty.toList == []) = true := by rw [show ByteArray.empty.toList = [] by simp [ByteArray.toList, ByteArray.toList.loop]]; rfl
      clear hd
      go_wp2
      go_ret2
      exact ⟨_, its, true, rfl, unhide HO, unhide HB, .inl ⟨rfl, unhide HD⟩⟩
    · have HD := hide hd
      have he : (rest.toList == []) = false := by
        have h2 := str_ne hne
        rw [show ByteArray.empty.toList = [] by simp [ByteArray.toList, ByteArray.toList.loop]] at h2
        exact h2
      clear hd hne
      go_wp2
      go_ret2
      exact ⟨_, [], false, rfl, World.ownsRow_nil _ _ _ _, unhide HB, .inr ⟨rfl, rfl, unhide HD⟩⟩
  · have HD := hide hd
    clear hd
    go_wp2
    go_ret2
    exact ⟨_, [], false, rfl, World.ownsRow_nil _ _ _ _, unhide HB, .inr ⟨rfl, rfl, unhide HD⟩⟩
end Rd
end Go.Proofs.YtghckjmpcokhcaaDoor
