/-
  The model's DrawPlaySession: some numbers, some texts, in bounds.
-/
import Derived.Test.YtedcmbegcmgfkaaCurA
import Derived.Test.YtedcmbegcmgfkaaStrN
import Derived.Test.YtedcmbegcmgfkaaNumText
import Derived.Laws.AppendOwn
import Derived.WalkSpells
import Derived.Lib.SliceRun
import Derived.Deep.DeepCutAuto
namespace Go.Proofs.Ytedcmbegcmgfkaa
namespace Cur
open Go.RowKit Base Marks OwnR NumText
set_option linter.unusedVariables false

theorem Cu.fresh (w : World) (t : TypeId) (a : Option Addr) (n cap : Nat) : Cu w (w.alloc (.cells #[.slice a n cap, .int .i64 0, .int .u64 0] t)) w.heap.size a n cap 0 := by
  refine ⟨⟨0, 0, ?_, ?_, ?_, Nat.le_refl _⟩, fun o => by simp, by simp, Nat.le_refl _, (Below.refl _ _).alloc (Nat.le_refl _) _⟩
  all_goals rw [World.cell?_alloc_new]; rfl
theorem Cu.gb {w0 w w' : World} {c : Nat} {a : Option Addr} {n cap k : Nat} {r : Option Nat} (h : Cu w0 w c a n cap k) (hg : w.grownBy w' r) (hr : ∀ g, r = some g → c < g) : Cu w0 w' c a n cap k := by
  obtain ⟨⟨q, sd, c0, c1, c2, hq⟩, fz, hlt, hlo, hbel⟩ := h
  have hne : some c ≠ r := fun e => by have := hr c e.symm; omega
  have e := hg.block c hlt hne
  have ec : ∀ o, w'.cell? ⟨c, o, none⟩ = w.cell? ⟨c, o, none⟩ := fun o => World.cell?_of_block (a := ⟨c, o, none⟩) e
  refine ⟨⟨q, sd, (ec _).trans c0, (ec _).trans c1, (ec _).trans c2, hq⟩, fun o => ?_, Nat.lt_of_lt_of_le hlt hg.size, hlo, hbel.grown hg (Nat.le_trans hlo (Nat.le_of_lt hlt)) (fun g e => by have := hr g e; omega)⟩
  have := fz o
  unfold World.frozen? at this ⊢
  rw [e]
  exact this
def four : List ByteArray := [⟨#[97]⟩, ⟨#[98]⟩, ⟨#[]⟩, ⟨#[99, 99]⟩]
theorem four_size (i : Nat) (h : i < 4) : (four.getD i ByteArray.empty).size ≤ 2 := by
  obtain rfl | rfl | rfl | rfl : i = 0 ∨ i = 1 ∨ i = 2 ∨ i = 3 := by omega
  all_goals decide
theorem cells4 (w : World) (t : TypeId) (i : Nat) (h : i < 4) : (w.alloc (.cells #[.string ⟨#[97]⟩, .string ⟨#[98]⟩, .string ⟨#[]⟩, .string ⟨#[99, 99]⟩] t)).cell? ⟨w.heap.size, i, none⟩ = some (.string (four.getD i ByteArray.empty)) := by
  rw [World.cell?_alloc_new]
  obtain rfl | rfl | rfl | rfl : i = 0 ∨ i = 1 ∨ i = 2 ∨ i = 3 := by omega
  all_goals rfl
theorem txt_size (n : Nat) (h : n < 18446744073709551616) : (txt n).size ≤ 20 := by
  have h1 := Lib.nDigits_le20 n h
  have e : (txt n).size = Lib.nDigits n := by
    show (Lib.decDigits n).toArray.size = _
    rw [Lib.decDigits_eq]; simp
  omega
theorem snoc_size {l : List ByteArray} {s : ByteArray} (h : ∀ k, k < l.length → (l.getD k ByteArray.empty).size ≤ 100) (hs : s.size ≤ 100) : ∀ k, k < (l ++ [s]).length → ((l ++ [s]).getD k ByteArray.empty).size ≤ 100 := by
  intro k hk
  by_cases e : k < l.length
  · rw [show (l ++ [s]).getD k ByteArray.empty = l.getD k ByteArray.empty by simp [List.getD_eq_getElem?_getD, List.getElem?_append_left e]]
    exact h k e
  · obtain rfl : k = l.length := by rw [List.length_append, List.length_singleton] at hk; omega
    rw [show (l ++ [s]).getD l.length ByteArray.empty = s by simp]
    exact hs
/-- What is drawn. -/
def Drawn (w : World) (e : Ending) (w' : World) : Prop := ∃ (order : List Int) (ts : List ByteArray) (a : Option Addr) (ca : Nat) (b : Option Addr) (cb : Nat), e = .returned (.tuple #[.slice a order.length ca, .slice b ts.length cb]) ∧
  order.length ≤ 200 ∧ ts.length ≤ 31 ∧ (∀ k, k < ts.length → (ts.getD k ByteArray.empty).size ≤ 100) ∧ Ints.NAt w' a order ∧ StrsAt w' b ts ∧ (∀ c off, a = some ⟨c, off, none⟩ → c < w'.heap.size) ∧ (∀ c off, b = some ⟨c, off, none⟩ → c < w'.heap.size) ∧ Below w.heap.size w w'
theorem drawn_of {w w' : World} {B B' : Nat} {ts : List ByteArray} {order : List Int} {a b : Option Addr} {ca cb : Nat} (h1 : StrN.OwnT w' B (.slice b ts.length cb) ts) (h2 : w'.ownsRow B' 3 1 (.slice a order.length ca) order.length (Ints.cells order))
    (q1 : order.length ≤ 200) (q2 : ts.length ≤ 31) (q3 : ∀ k, k < ts.length → (ts.getD k ByteArray.empty).size ≤ 100) (hb : Below w.heap.size w w') : Drawn w (.returned (.tuple #[.slice a order.length ca, .slice b ts.length cb])) w' :=
  ⟨order, ts, a, ca, b, cb, rfl, q1, q2, q3, (StrN.own_nums h2).1, (StrN.own_strs h1).1, (StrN.own_nums h2).2, (StrN.own_strs h1).2, hb⟩

theorem nat_made (w : World) (m : Nat) : Ints.NAt (w.alloc (.cells (madeCells #[.int .i64 0] m) 3)) (some ⟨w.heap.size, 0, none⟩) (List.replicate m 0) := by
  intro _
  have hr := World.rowIs_made w (.int .i64 0) m 3
  refine ⟨w.heap.size, 0, rfl, hr.lt, fun i hi => ?_⟩
  rw [List.length_replicate] at hi
  rw [Nat.zero_add, hr.cell hi]
  simp [List.getD_eq_getElem?_getD, hi]
theorem drawn_made {w w' : World} {B m : Nat} {ts : List ByteArray} {b : Option Addr} {cb : Nat} (h1 : StrN.OwnT w' B (.slice b ts.length cb) ts) (q1 : m ≤ 200) (q2 : ts.length ≤ 31) (q3 : ∀ k, k < ts.length → (ts.getD k ByteArray.empty).size ≤ 100) (hb : Below w.heap.size w w') :
    Drawn w (.returned (.tuple #[.slice (some ⟨w'.heap.size, 0, none⟩) m m, .slice b ts.length cb])) (w'.alloc (.cells (madeCells #[.int .i64 0] m) 3)) := by
  have h1' : StrN.OwnT (w'.alloc (.cells (madeCells #[.int .i64 0] m) 3)) B (.slice b ts.length cb) ts := own_below h1 (bel1 w' _) (Nat.le_refl _)
  refine ⟨List.replicate m 0, ts, some ⟨w'.heap.size, 0, none⟩, m, b, cb, by rw [List.length_replicate], by rw [List.length_replicate]; exact q1, q2, q3, nat_made w' m, (StrN.own_strs h1').1, fun c off e => by simp at e; simp; omega, (StrN.own_strs h1').2, hb.alloc hb.size _⟩

set_option maxRecDepth 10000 in
set_option maxHeartbeats 8000000 in
theorem drawPlay_any (a : Option Addr) (n cap : Nat) (z : Nat → Int) (w : World) (hz : BAt w a n z) (hn : n ≤ 1048576) :
    Calls Try.prog 4 #[.slice a n cap] w (Drawn w) := by
  have HP := hide (fun m (hm : 1 ≤ m ∧ m ≤ 200) k (hk : k ≤ 1000) w' h => pick_any w w' w.heap.size a n cap k m z hz hn (by omega) h hm)
  have HO := hide (fun m (hm : 1 ≤ m ∧ m ≤ 200) k (hk : k ≤ 1000) w' h => one_any w w' w.heap.size a n cap k m z hz hn (by omega) h hm)
  have HF := hide (fun k (hk : k ≤ 1000) w' lb h h1 h2 hc => of_any w w' w.heap.size a n cap k lb 4 four z hz hn (by omega) h (by decide) h1 h2 hc)
  have HNM := hide (fun (i : Nat) (hi : i ≤ 100) w' => num_any (i : Int) w' (by omega) (by omega))
  have HTS := hide (fun (i : Nat) (hi : i ≤ 100) => txt_size i (by omega))
  obtain ⟨i0, hi, hz0, hz1, hz2⟩ := StrN.info_ex
  have HI := hide hi
  have HZ0 := hide hz0
  have HZ1 := hide hz1
  have HZ2 := hide hz2
  obtain ⟨j0, hj, hy0, hy1, hy2⟩ := Ints.info_ex
  have HJ := hide hj
  have HY0 := hide hy0
  have HY1 := hide hy1
  have HY2 := hide hy2
  clear hz hi hz0 hz1 hz2 hj hy0 hy1 hy2
  go_enter Try.func4, Try.ntmps4
  go_wp2_with fail
  refine (unhide HP 7 (by omega) 0 (by omega) _ (Cu.fresh w _ a n cap)).mono ?_
  rintro e w1 ⟨r0, rfl, hr0, hcu1, _⟩
  have C1 := hide hcu1
  clear hcu1
  go_wp2_with fail
  refine (unhide HO 30 (by omega) 1 (by omega) _ (unhide C1)).mono ?_
  rintro e w2 ⟨b0, rfl, hcu2, _⟩
  have C2 := hide hcu2
  clear hcu2
  cases b0
  case' false =>
    obtain ⟨nn, hnn, hle⟩ : ∃ nn : Nat, (r0 : Int) = nn ∧ nn ≤ 31 := ⟨r0, rfl, by omega⟩
    rw [hnn]
    clear hnn
    have C5 := hide ((unhide C2).le (show 2 ≤ 3 by omega))
    obtain ⟨w5, hw5⟩ : ∃ v : World, v = w2 := ⟨_, rfl⟩
    rw [← hw5] at C5 ⊢
    clear hw5
    go_upto_region 6 with fail
  case' true =>
    go_wp2_with fail
    refine (unhide HP 2 (by omega) 2 (by omega) _ (unhide C2)).mono ?_
    rintro e w5 ⟨r1, rfl, hr1, hcu5, _⟩
    have C5 := hide hcu5
    clear hcu5
    have hw30 : IntKind.i64.wrap (30 + (r1 : Int)) = ((30 + r1 : Nat) : Int) := by rw [IntKind.wrap_i64]; omega
    go_upto_region 6 with fail
    obtain ⟨nn, hnn, hle⟩ : ∃ nn : Nat, nn = 30 + r1 ∧ nn ≤ 31 := ⟨30 + r1, rfl, by omega⟩
    have e30 : (30 + (r1 : Int)) = (nn : Int) := by omega
    rw [e30]
    clear e30 hnn hw30
  all_goals
    go_wp2
    go_loopw [5, 7] (fun lv iv wr => ∃ (i : Nat) (ts : List ByteArray) (v : Value), i ≤ nn ∧ v = lv ∧ iv = .int .i64 i ∧ Hid (ts.length = i) ∧ Hid (∀ k, k < ts.length → (ts.getD k ByteArray.empty).size ≤ 100) ∧ Hid (StrN.OwnT wr (w.heap.size + 1) v ts) ∧ Hid (Cu w wr w.heap.size a n cap (3 + i))) (fun _ iv _ => nn - (intOf iv).toNat)
    case atStart => exact ⟨0, [], _, Nat.zero_le _, rfl, rfl, hide rfl, hide (fun k hk => absurd hk (by simp)), hide (World.ownsRow_nil _ _ _ _), C5⟩
    case round =>
      obtain ⟨i, ts, v, hi, hv, rfl, hlen, hsz, O6, C6⟩ := hrel
      subst hv
      by_cases hil : i < nn
      · have hcl := (unhide C6).lt
        go_wp2_with fail
        refine (unhide HF (3 + i) (by omega) _ wr.heap.size ((unhide C6).alloc _) (by simp) (by omega) (fun j hj => cells4 wr _ j hj)).mono ?_
        rintro e w7 ⟨x, rfl, hx, hcu7, hg7⟩
        have hs0 := four_size x hx
        have O7 := hide (StrN.own_gb ((unhide O6).alloc _) hg7 (Nat.lt_succ_self _))
        have C7 := hide hcu7
        clear hcu7 hg7 hx
        generalize four.getD x ByteArray.empty = s0 at hs0 ⊢
        go_wp2_with fail
        refine (unhide HNM i (by omega) _).mono ?_
        rintro e w8 ⟨rfl, hb8⟩
        have hs1 := unhide HTS i (by omega)
        rw [Int.toNat_natCast]
        generalize txt i = s1 at hs1 ⊢
        have O8 := hide (own_below (unhide O7) hb8 (Nat.le_refl _))
        have C8 := hide ((unhide C7).gb (gb_below (r := none) hb8 (Nat.le_refl _)) (by simp))
        have z8 := (unhide C8).lt
        have hsum : (s0 ++ s1).size ≤ 100 := by rw [ByteArray.size_append]; omega
        have hln : ts.length ≤ 31 := by have := unhide hlen; omega
        clear hb8
        go_wp2_with (at_builtin; go_loud (refine wpList_append_own _ rfl _ _ 24 rfl (w.heap.size + 1) 9 i0 _ 1 16 Try.underlying24 (unhide HI) (unhide HZ0) (unhide HZ1) (unhide HZ2) rfl (by decide) _ _ _ rfl ((unhide O8).alloc _) ⟨w8.heap.size, 0, none⟩ 1 1 [.string (s0 ++ s1)] rfl rfl ?c1 ?c2 ?c3 ?c4 ?c5 ?_))
        case c1 => exact StrN.news_cells w8 (s0 ++ s1) _
        case c2 => exact StrN.news_one (s0 ++ s1)
        case c3 => unfold maxLen; omega
        case c4 => omega
        case c5 => simp; omega
        intro v' w9 hown' hgrow _
        have O9 := hide (StrN.own_snoc hown')
        have C9 := hide (((unhide C8).alloc _).gb hgrow (fun g e => by have := own_block (unhide O8) g e; omega))
        have S9 := hide (snoc_size (unhide hsz) hsum)
        have L9 : Hid ((ts ++ [s0 ++ s1]).length = i + 1) := by show (ts ++ [s0 ++ s1]).length = i + 1; rw [List.length_append, unhide hlen]; rfl
        clear hown' hgrow
        go_wp2
        go_roundw
        case rel => exact ⟨i + 1, ts ++ [s0 ++ s1], _, by omega, rfl, by go_num, L9, S9, O9, hide ((unhide C9).le (by omega))⟩
        case measure => simp [intOf]; omega
      · obtain rfl : i = nn := by omega
        have hln : ts.length ≤ 31 := by have := unhide hlen; omega
        obtain ⟨bs, cb, hvs⟩ := own_form (unhide O6)
        subst hvs
        go_wp2_with fail
        have hm2 : (2 * ((i : Int) + 1)) = ((2 * (i + 1) : Nat) : Int) := by omega
        rw [hm2]
        refine (unhide HP (2 * (i + 1)) (by omega) (3 + i) (by omega) _ (unhide C6)).mono ?_
        rintro e w10 ⟨k0, rfl, hk0, hcu10, hg10⟩
        have O10 := hide (StrN.own_gb (unhide O6) hg10 (Nat.lt_succ_self _))
        have C10 := hide (hcu10.le (show 3 + i + 1 ≤ 100 - k0 by omega))
        have z10 := hcu10.lt
        clear hcu10 hg10 O6 C6 C5 hm2
        go_wp2
        go_loopw [8, 9] (fun ov kv wr => ∃ (k : Nat) (od : List Int) (v : Value), k + od.length ≤ 64 ∧ v = ov ∧ kv = .int .i64 k ∧ Hid (wr.ownsRow w10.heap.size 3 1 v od.length (Ints.cells od)) ∧ Hid (w10.grownBy wr (some w.heap.size)) ∧ Hid (Cu w wr w.heap.size a n cap (100 - k))) (fun _ kv _ => (intOf kv).toNat)
        case atStart => exact ⟨k0, [], _, by simp; omega, rfl, rfl, hide (World.ownsRow_nil _ _ _ _), hide (Marks.gb_refl _ _), C10⟩
        case round =>
          obtain ⟨k, od, v, hk, hv, rfl, I1, G1, C1⟩ := hrel
          subst hv
          have z1 := (unhide G1).size
          by_cases hkp : 0 < k
          · obtain ⟨k', rfl⟩ : ∃ k', k = k' + 1 := ⟨k - 1, by omega⟩
            have hkp' : (0 : Int) < ((k' + 1 : Nat) : Int) := by omega
            go_wp2_with fail
            have hi1 : ((i : Int) + 1) = ((i + 1 : Nat) : Int) := by omega
            rw [hi1]
            refine (unhide HP (i + 1) (by omega) (100 - (k' + 1)) (by omega) _ (unhide C1)).mono ?_
            rintro e w11 ⟨r, rfl, hr, hcu11, hg11⟩
            have I2 := hide (StrN.own_gb (unhide I1) hg11 z10)
            have G2 := hide (gb_trans (unhide G1) hg11)
            have C2 := hide hcu11
            have z2 := (unhide G2).size
            clear hcu11 hg11 hi1
            go_wp2_with (at_builtin; go_loud (refine wpList_append_own _ rfl _ _ 23 rfl w10.heap.size 3 j0 _ 1 8 Try.underlying23 (unhide HJ) (unhide HY0) (unhide HY1) (unhide HY2) rfl (by decide) _ _ _ rfl ((unhide I2).alloc _) ⟨w11.heap.size, 0, none⟩ 1 1 [.int .i64 (r : Int)] rfl rfl ?c1 ?c2 ?c3 ?c4 ?c5 ?_))
            case c1 => exact Ints.news_cells w11 (r : Int) _
            case c2 => exact Ints.news_one (r : Int)
            case c3 => unfold maxLen; omega
            case c4 => omega
            case c5 => simp; omega
            intro v' w12 hown' hgrow _
            have I3 := hide (Ints.own_snoc (kept' := od ++ [(r : Int)]) hown' rfl)
            have G3 := hide (StrN.gb_own (gb_trans (unhide G2) (gb_below (r := some w.heap.size) (bel1 w11 _) (Nat.le_refl _))) hgrow (fun g e => own_block (unhide I2) g e))
            have C3 := hide ((((unhide C2).alloc _).gb hgrow (fun g e => by have := own_block (unhide I2) g e; omega)).le (show 100 - (k' + 1) + 1 ≤ 100 - k' by omega))
            clear hown' hgrow
            go_wp2
            go_roundw
            case rel => exact ⟨k', od ++ [(r : Int)], _, by rw [List.length_append, List.length_singleton]; omega, rfl, by first | rfl | go_num, I3, G3, C3⟩
            case measure => simp [intOf]
          · obtain rfl : k = 0 := by omega
            obtain ⟨ai, ci, hvi⟩ := own_form (unhide I1)
            subst hvi
            go_wp2_with fail
            refine (unhide HO 40 (by omega) 100 (by omega) _ (unhide C1)).mono ?_
            rintro e w13 ⟨b3, rfl, hcu13, hg13⟩
            have I3 := hide (StrN.own_gb (unhide I1) hg13 z10)
            have O3 := hide (StrN.own_gb (unhide O10) (gb_trans (unhide G1) hg13) (Nat.lt_succ_self _))
            have C3 := hide hcu13
            clear hcu13 hg13
            cases b3
            · have HD := hide (drawn_of (unhide O3) (unhide I3) (by omega) hln (unhide hsz) (unhide C3).bel)
              go_wp2
              go_ret2
              exact unhide HD
            · go_wp2_with fail
              refine (unhide HP 2 (by omega) 101 (by omega) _ (unhide C3)).mono ?_
              rintro e w14 ⟨r, rfl, hr, hcu14, hg14⟩
              have O4 := hide (StrN.own_gb (unhide O3) hg14 (Nat.lt_succ_self _))
              have C4 := hide hcu14
              have h100 : (100 + (r : Int)) = ((100 + r : Nat) : Int) := by omega
              obtain ⟨m, hm⟩ : ∃ m, m = 100 + r := ⟨_, rfl⟩
              rw [← hm] at h100
              have hm200 : m ≤ 200 := by omega
              have hmk := fun w => run_make_row' (P := Try.prog) 23 3 (.int .i64 0) 8 Try.underlying23 Ints.info rfl .i64 .i64 m (by omega) (by omega) w
              have HD := hide (drawn_made (m := m) (unhide O4) hm200 hln (unhide hsz) (unhide C4).bel)
              clear hcu14 hg14 hm
              go_wp2
              go_ret2
              exact unhide HD
end Cur
end Go.Proofs.Ytedcmbegcmgfkaa
