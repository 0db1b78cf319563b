/-
  The model's cursor l1Cur: keys. Only bounds of what is drawn are told.
-/
import Derived.Test.YtoinbldoioffdaaDoorCurZ
import Derived.Test.YtoinbldoioffdaaDoorStrN
import Derived.Test.YtoinbldoioffdaaDoorNumText
import Derived.Laws.AppendOwn
import Derived.WalkSpells
import Derived.Lib.SliceRun
namespace Go.Proofs.YtoinbldoioffdaaDoor
namespace Cur
open Go.RowKit Base Marks OwnR NumText
set_option linter.unusedVariables false

theorem Cu.gbN {w0 w w' : World} {c : Nat} {a : Option Addr} {n cap k : Nat} {r : Option Nat} (h : Cu w0 w c a n cap k) (hg : w.grownBy w' r) (hr : ∀ g, r = some g → c < g) : Cu w0 w' c a n cap k := by
  obtain ⟨⟨q, sd, c0, c1, c2, hq⟩, fz, hlt, hlo, hbel⟩ := h
  have hne : some c ≠ r := fun e => by have := hr c e.symm; omega
  have e := hg.block c hlt hne
  have ec : ∀ o, w'.cell? ⟨c, o, none⟩ = w.cell? ⟨c, o, none⟩ := fun o => World.cell?_of_block (a := ⟨c, o, none⟩) e
  refine ⟨⟨q, sd, (ec _).trans c0, (ec _).trans c1, (ec _).trans c2, hq⟩, fun o => (World.frozen?_of_block (w := w) (a := ⟨c, o, none⟩) e).trans (fz o), Nat.lt_of_lt_of_le hlt hg.size, hlo, hbel.grown hg (Nat.le_trans hlo (Nat.le_of_lt hlt)) (fun g e => by have := hr g e; omega)⟩
def lenV : Value → Nat
  | .slice _ n _ => n
  | _ => 0
def digs : List ByteArray := [⟨#[]⟩, ⟨#[49]⟩, ⟨#[50]⟩, ⟨#[51]⟩, ⟨#[52]⟩]
theorem digs_size (i : Nat) (h : i < 5) : (digs.getD i ByteArray.empty).size ≤ 1 := by
  obtain rfl | rfl | rfl | rfl | rfl : i = 0 ∨ i = 1 ∨ i = 2 ∨ i = 3 ∨ i = 4 := by omega
  all_goals decide
theorem cellsD (w : World) (t : TypeId) (i : Nat) (h : i < 5) : (w.alloc (.cells (digs.map (fun s => Value.string s)).toArray t)).cell? ⟨w.heap.size, i, none⟩ = some (.string (digs.getD i ByteArray.empty)) := by
  rw [World.cell?_alloc_new]
  obtain rfl | rfl | rfl | rfl | rfl : i = 0 ∨ i = 1 ∨ i = 2 ∨ i = 3 ∨ i = 4 := by omega
  all_goals rfl
theorem txt_small (n : Nat) (h : n < 18446744073709551616) : (txt n).size ≤ 20 := by
  have h1 := Lib.nDigits_le20 n h
  have e : (txt n).size = Lib.nDigits n := by
    show (Lib.decDigits n).toArray.size = _
    rw [Lib.decDigits_eq]; simp
  omega
theorem snocS {l : List ByteArray} {s : ByteArray} (h : ∀ x ∈ l, x.size ≤ 100) (hs : s.size ≤ 100) : ∀ x ∈ l ++ [s], x.size ≤ 100 := fun x hx => by
  rcases List.mem_append.1 hx with hx | hx
  · exact h x hx
  · rw [List.mem_singleton.1 hx]; exact hs
/-- What is drawn. -/
def KeysDrawn (w0 w : World) (c : Nat) (a : Option Addr) (n cap k : Nat) (e : Ending) (w' : World) : Prop :=
  ∃ (ts : List ByteArray) (b : Option Addr) (cb : Nat), e = .returned (.slice b ts.length cb) ∧ ts.length ≤ 61 ∧ (∀ x ∈ ts, x.size ≤ 100) ∧ StrN.OwnT w' w.heap.size (.slice b ts.length cb) ts ∧ Cu w0 w' c a n cap (k + 200) ∧ w.grownBy w' (some c)

set_option maxRecDepth 10000 in
set_option maxHeartbeats 4000000 in
theorem keys_any (w0 w : World) (c : Nat) (a : Option Addr) (n cap k : Nat) (z : Nat → Int) (hz : BAt w0 a n z) (hn : n ≤ 1048576) (hk : k ≤ 1000) (h : Cu w0 w c a n cap k) :
    Calls Tryd.prog 11 #[.pointer (some ⟨c, 0, none⟩)] w (KeysDrawn w0 w c a n cap k) := by
  have HP := hide (fun (m : Nat) (hm : 1 ≤ m ∧ m ≤ 200) k (hk : k ≤ 10000) w' h => pick_any w0 w' c a n cap k m z hz hn (by omega) h hm)
  have HO := hide (fun (m : Nat) (hm : 1 ≤ m ∧ m ≤ 200) k (hk : k ≤ 10000) w' h => one_any w0 w' c a n cap k m z hz hn (by omega) h hm)
  have HK := hide (fun k (hk : k ≤ 10000) w' h => key_any w0 w' c a n cap k z hz hn (by omega) h)
  have HF := hide (fun k (hk : k ≤ 10000) w' lb h h1 h2 hc => of_any w0 w' c a n cap k lb 5 digs z hz hn (by omega) h (by decide) h1 h2 hc)
  have HNM := hide (fun (i : Nat) (hi : i ≤ 100) w' => num_any (i : Int) w' (by omega) (by omega))
  have HTS := hide (fun (i : Nat) (hi : i ≤ 100) => txt_small i (by omega))
  obtain ⟨i0, hi, hz0, hz1, hz2⟩ := StrN.info_ex
  have HI := hide hi
  have HZ0 := hide hz0
  have HZ1 := hide hz1
  have HZ2 := hide hz2
  have hcw := h.lt
  have C0 := hide h
  clear hz hi hz0 hz1 hz2 h
  go_enter Tryd.func11, Tryd.ntmps11
  go_wp2_with fail
  refine (unhide HP 12 (by omega) k (by omega) _ (unhide C0)).mono ?_
  rintro e w1 ⟨r1, rfl, hr1, hcu, hg⟩
  have C1 := hide hcu
  have G1 := hide hg
  clear hcu hg
  go_wp2
  go_loopw [3, 4] (fun lv jv wr => ∃ (j : Nat) (ts : List ByteArray) (v : Value), j + ts.length ≤ 11 ∧ v = lv ∧ jv = .int .i64 j ∧ Hid (∀ x ∈ ts, x.size ≤ 100) ∧ Hid (StrN.OwnT wr w.heap.size v ts) ∧ Hid (Cu w0 wr c a n cap (k + 1 + 3 * ts.length)) ∧ Hid (w.grownBy wr (some c))) (fun _ jv _ => (intOf jv).toNat)
  case atStart => exact ⟨r1, [], _, by simp; omega, rfl, rfl, hide (fun x hx => absurd hx (by simp)), hide (World.ownsRow_nil _ _ _ _), C1, G1⟩
  case round =>
    obtain ⟨j, ts, v, hj, hv, rfl, hsz, O2, C2, G2⟩ := hrel
    subst hv
    clear C1 G1 C0
    have hzw := (unhide G2).size
    by_cases hjp : 0 < j
    · obtain ⟨j', rfl⟩ : ∃ j', j = j' + 1 := ⟨j - 1, by omega⟩
      have hjp' : (0 : Int) < ((j' + 1 : Nat) : Int) := by omega
      go_wp2_with fail
      refine (unhide HK (k + 1 + 3 * ts.length) (by omega) _ (unhide C2)).mono ?_
      rintro e w3 ⟨s0, rfl, hs0, hcu, hg⟩
      have O3 := hide (StrN.own_gb (unhide O2) hg hcw)
      have C3 := hide hcu
      have G3 := hide (gb_trans (unhide G2) hg)
      have z3 := hcu.lt
      clear hcu hg O2 C2 G2
      go_wp2_with fail
      refine (unhide HF (k + 1 + 3 * ts.length + 2) (by omega) _ w3.heap.size ((unhide C3).alloc _) (by simp) (by omega) (fun i hi => cellsD w3 _ i hi)).mono ?_
      rintro e w4 ⟨x, rfl, hx, hcu, hg⟩
      have hs1 := digs_size x hx
      have O4 := hide (StrN.own_gb ((unhide O3).alloc _) hg hcw)
      have C4 := hide hcu
      have G4 := hide (gb_trans (gb_trans (unhide G3) (gb_below (r := some c) (bel1 w3 _) (Nat.le_refl _))) hg)
      have z4 := hcu.lt
      have zw4 := (unhide G4).size
      clear hcu hg O3 C3 G3 hx
      generalize digs.getD x ByteArray.empty = s1 at hs1 ⊢
      have hsum : (s0 ++ s1).size ≤ 100 := by rw [ByteArray.size_append]; omega
      go_wp2_with (at_builtin; go_loud (refine wpList_append_own _ rfl _ _ 24 rfl w.heap.size 9 i0 _ 1 16 Tryd.underlying24 (unhide HI) (unhide HZ0) (unhide HZ1) (unhide HZ2) rfl (by decide) _ _ _ rfl ((unhide O4).alloc _) ⟨w4.heap.size, 0, none⟩ 1 1 [.string (s0 ++ s1)] rfl rfl ?c1 ?c2 ?c3 ?c4 ?c5 ?_))
      case c1 => exact StrN.news_cells w4 (s0 ++ s1) _
      case c2 => exact StrN.news_one (s0 ++ s1)
      case c3 => unfold maxLen; omega
      case c4 => omega
      case c5 => simp; omega
      intro v' w5 hown' hgrow _
      have O5 := hide (StrN.own_snoc hown')
      have C5 := hide ((((unhide C4).alloc _).gbN hgrow (fun g e => by have := own_block (unhide O4) g e; omega)).le (show k + 1 + 3 * ts.length + 2 + 1 ≤ k + 1 + 3 * (ts ++ [s0 ++ s1]).length by rw [List.length_append, List.length_singleton]; omega))
      have G5 := hide (StrN.gb_own (gb_trans (unhide G4) (gb_below (r := some c) (bel1 w4 _) (Nat.le_refl _))) hgrow (fun g e => own_block (unhide O4) g e))
      have S5 := hide (snocS (unhide hsz) hsum)
      clear hown' hgrow
      go_wp2
      go_roundw
      case rel => exact ⟨j', ts ++ [s0 ++ s1], _, by rw [List.length_append, List.length_singleton]; omega, rfl, by first | rfl | go_num, S5, O5, C5, G5⟩
      case measure => simp [intOf]
    · obtain rfl : j = 0 := by omega
      obtain ⟨b2, cb2, hvs⟩ := own_form (unhide O2)
      subst hvs
      go_wp2_with fail
      refine (unhide HO 40 (by omega) (k + 1 + 3 * ts.length) (by omega) _ (unhide C2)).mono ?_
      rintro e w3 ⟨b3, rfl, hcu, hg⟩
      have O3 := hide (StrN.own_gb (unhide O2) hg hcw)
      have C3 := hide (hcu.le (show k + 1 + 3 * ts.length + 1 ≤ k + 40 + ts.length by omega))
      have G3 := hide (gb_trans (unhide G2) hg)
      clear hcu hg O2 C2 G2
      cases b3
      · have HD : Hid (KeysDrawn w0 w c a n cap k (.returned (.slice b2 ts.length cb2)) w3) := ⟨ts, b2, cb2, rfl, by omega, unhide hsz, unhide O3, (unhide C3).le (by omega), unhide G3⟩
        go_wp2
        go_ret
        exact unhide HD
      · have hts : ts.length ≤ 61 := by omega
        have hsz3 := hsz
        clear hj hzw
        go_wp2_with fail
        go_loopw [3] (fun lv wr => ∃ (ts : List ByteArray) (b : Option Addr) (cb : Nat), ts.length ≤ 61 ∧ lv = .slice b ts.length cb ∧ Hid (∀ x ∈ ts, x.size ≤ 100) ∧ Hid (StrN.OwnT wr w.heap.size (.slice b ts.length cb) ts) ∧ Hid (Cu w0 wr c a n cap (k + 40 + ts.length)) ∧ Hid (w.grownBy wr (some c))) (fun lv _ => 61 - lenV lv)
        case atStart => exact ⟨ts, b2, cb2, hts, rfl, hsz3, O3, C3, G3⟩
        case round =>
          obtain ⟨us, b, cb, hus, rfl, hsu, O4, C4, G4⟩ := hrel
          clear O3 C3 G3 hsz hsz3
          go_wp2_with fail
          refine (unhide HP 2 (by omega) (k + 40 + us.length) (by omega) _ (unhide C4)).mono ?_
          rintro e w5 ⟨r5, rfl, hr5, hcu, hg⟩
          have O5 := hide (StrN.own_gb (unhide O4) hg hcw)
          have C5 := hide hcu
          have G5 := hide (gb_trans (unhide G4) hg)
          clear hcu hg O4 C4 G4
          by_cases hlt : us.length < 60 + r5
          · have hlt' : (us.length : Int) < 60 + (r5 : Int) := by omega
            go_wp2_with fail
            refine (unhide HNM us.length (by omega) _).mono ?_
            rintro e w6 ⟨rfl, hb6⟩
            have hs1 := unhide HTS us.length (by omega)
            rw [Int.toNat_natCast]
            generalize txt us.length = s1 at hs1 ⊢
            have O6 := hide (own_below (unhide O5) hb6 (Nat.le_refl _))
            have C6 := hide ((unhide C5).gbN (gb_below (r := none) hb6 (Nat.le_refl _)) (by simp))
            have G6 := hide (gb_trans (unhide G5) (gb_below (r := some c) hb6 (Nat.le_refl _)))
            have z6 := (unhide C6).lt
            have zw6 := (unhide G6).size
            have hsum : (⟨#[107]⟩ ++ s1 : ByteArray).size ≤ 100 := by rw [ByteArray.size_append]; have : (⟨#[107]⟩ : ByteArray).size = 1 := rfl; omega
            clear hb6 O5 C5 G5
            go_wp2_with (at_builtin; go_loud (refine wpList_append_own _ rfl _ _ 24 rfl w.heap.size 9 i0 _ 1 16 Tryd.underlying24 (unhide HI) (unhide HZ0) (unhide HZ1) (unhide HZ2) rfl (by decide) _ _ _ rfl ((unhide O6).alloc _) ⟨w6.heap.size, 0, none⟩ 1 1 [.string (⟨#[107]⟩ ++ s1)] rfl rfl ?c1 ?c2 ?c3 ?c4 ?c5 ?_))
            case c1 => exact StrN.news_cells w6 (⟨#[107]⟩ ++ s1) _
            case c2 => exact StrN.news_one (⟨#[107]⟩ ++ s1)
            case c3 => unfold maxLen; omega
            case c4 => omega
            case c5 => simp; omega
            intro v' w7 hown' hgrow _
            have O7 := hide (StrN.own_snoc hown')
            obtain ⟨b7, cb7, hv7⟩ := own_form (unhide O7)
            subst hv7
            have C7 := hide ((((unhide C6).alloc _).gbN hgrow (fun g e => by have := own_block (unhide O6) g e; omega)).le (show k + 40 + us.length + 1 ≤ k + 40 + (us ++ [⟨#[107]⟩ ++ s1]).length by rw [List.length_append, List.length_singleton]; omega))
            have G7 := hide (StrN.gb_own (gb_trans (unhide G6) (gb_below (r := some c) (bel1 w6 _) (Nat.le_refl _))) hgrow (fun g e => own_block (unhide O6) g e))
            have S7 := hide (snocS (unhide hsu) hsum)
            have hl7 : (us ++ [⟨#[107]⟩ ++ s1]).length = us.length + 1 := by rw [List.length_append]; rfl
            clear hown' hgrow
            go_wp2
            go_roundw
            case rel => exact ⟨us ++ [⟨#[107]⟩ ++ s1], b7, cb7, by omega, rfl, S7, O7, C7, G7⟩
            case measure => simp [lenV]; omega
          · have hlt' : ¬ (us.length : Int) < 60 + (r5 : Int) := by omega
            have HD : Hid (KeysDrawn w0 w c a n cap k (.returned (.slice b us.length cb)) w5) := ⟨us, b, cb, rfl, hus, unhide hsu, unhide O5, (unhide C5).le (by omega), unhide G5⟩
            go_wp2
            go_ret
            exact unhide HD
end Cur
end Go.Proofs.YtoinbldoioffdaaDoor
