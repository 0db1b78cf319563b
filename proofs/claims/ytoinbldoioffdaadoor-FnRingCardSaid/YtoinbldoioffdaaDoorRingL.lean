/-
  FnRing returns true for every slice of bytes, where strconv's table holds what the program's text lays in it: for the nodes and keys that are drawn the program's SharesOf answers as the model's, the shares are all keys, and when the first node goes just its keys move.
-/
import Derived.Test.YtoinbldoioffdaaDoorNodesE
import Derived.Test.YtoinbldoioffdaaDoorMovedI
import Derived.Test.YtoinbldoioffdaaDoorRingW
import Derived.Test.YtoinbldoioffdaaDoorRingK
import Derived.Test.YtoinbldoioffdaaDoorCurR
namespace Go.Proofs.YtoinbldoioffdaaDoor
namespace RingL
open Go.RowKit Base KeysS Marks Ring
set_option linter.unusedVariables false

set_option maxRecDepth 10000 in
set_option maxHeartbeats 400000 in
theorem same_nil (a b : Option Addr) (ca cb : Nat) (w : World) : Calls Tryd.prog 7 #[.slice a 0 ca, .slice b 0 cb] w fun e w' => e = .returned (.bool true) ∧ Below w.heap.size w w' := by
  go_enter Tryd.func7, Tryd.ntmps7
  go_wp2_with fail
  go_loopw [13] (fun iv wr => iv = .int .i64 0 ∧ Hid (Below w.heap.size w wr)) (fun _ _ => 0)
  case atStart => exact ⟨rfl, hide (Below.refl _ _)⟩
  case round =>
    obtain ⟨rfl, hb⟩ := hrel
    go_wp2
    go_ret
    exact ⟨rfl, unhide hb⟩
set_option maxRecDepth 10000 in
set_option maxHeartbeats 1000000 in
theorem same_rows (g h n : Nat) (ca cb : Nat) (f : Nat → Int) (w : World) (h1 : RowAt w g 3 n (fun i => .int .i64 (f i))) (h2 : RowAt w h 3 n (fun i => .int .i64 (f i))) (hn : n ≤ 60) :
    Calls Tryd.prog 7 #[.slice (some ⟨g, 0, none⟩) n ca, .slice (some ⟨h, 0, none⟩) n cb] w fun e w' => e = .returned (.bool true) ∧ Below w.heap.size w w' := by
  have H1 := hide h1
  have H2 := hide h2
  have hg := h1.lt
  have hh := h2.lt
  clear h1 h2
  go_enter Tryd.func7, Tryd.ntmps7
  go_wp2_with fail
  go_loopw [13] (fun iv wr => ∃ k : Nat, k ≤ n ∧ iv = .int .i64 (k : Int) ∧ Hid (Below w.heap.size w wr)) (fun iv _ => n - (intOf iv).toNat)
  case atStart => exact ⟨0, Nat.zero_le _, rfl, hide (Below.refl _ _)⟩
  case round =>
    obtain ⟨k, hk, rfl, hb⟩ := hrel
    by_cases hlt : k < n
    · have c1 : wr.cell? ⟨g, k, none⟩ = some (.int .i64 (f k)) := ((unhide hb).cell (p := ⟨g, k, none⟩) hg).trans ((unhide H1).cell hlt)
      have c2 : wr.cell? ⟨h, k, none⟩ = some (.int .i64 (f k)) := ((unhide hb).cell (p := ⟨h, k, none⟩) hh).trans ((unhide H2).cell hlt)
      have HBQ : Hid (∀ m, Below wr.heap.size wr (wr.drewN m)) := fun m => bel_draws (Below.refl _ _) m
      generalize f k = y at c1 c2
      have hyy : (y != y) = false := by simp
      go_wp2_with fail
      go_quiet (fail)
      generalize hwq : wr.drewN _ = wq
      have hb2 : Below wr.heap.size wr wq := by rw [← hwq]; exact unhide HBQ _
      have B2 := hide ((unhide hb).trans (hb2.mono (unhide hb).size))
      clear hb2 hwq c1 c2
      go_wp2
      go_roundw
      case rel => exact ⟨k + 1, by omega, by go_num, B2⟩
      case measure => simp [intOf]; omega
    · obtain rfl : k = n := by omega
      go_wp2
      go_ret
      exact ⟨rfl, unhide hb⟩
/-- Two rows of the same numbers. -/
theorem same_ours (a b : Option Addr) (ca cb : Nat) (R : List Int) (r s : Option Nat) (w : World) (h1 : IntsM.Ours w a R.length (Ring.ncell R) r) (h2 : IntsM.Ours w b R.length (Ring.ncell R) s) (hn : R.length ≤ 60) :
    Calls Tryd.prog 7 #[.slice a R.length ca, .slice b R.length cb] w fun e w' => e = .returned (.bool true) ∧ Below w.heap.size w w' := by
  rcases h1 with ⟨h0, _⟩ | ⟨g, rfl, _, hr1⟩
  · rw [h0]; exact same_nil a b ca cb w
  · rcases h2 with ⟨h0, _⟩ | ⟨h, rfl, _, hr2⟩
    · rw [h0]; exact same_nil _ b ca cb w
    · exact same_rows g h R.length ca cb (fun i => R.getD i 0) w hr1 hr2 hn
/-- The shares of the first k nodes. -/
def sumS (l : List Nodes.D) (ts : List ByteArray) (k : Nat) : Nat := ((l.map (fun x => cnt l ts x.name)).take k).sum
theorem sumS_succ (l : List Nodes.D) (ts : List ByteArray) (k : Nat) (h : k < l.length) : sumS l ts (k + 1) = sumS l ts k + cnt l ts (l.getD k Nodes.zero).name := by
  unfold sumS
  rw [List.take_succ_eq_append_getElem (by rw [List.length_map]; exact h), List.sum_append]
  simp [List.getD_eq_getElem?_getD, List.getElem?_eq_getElem h]
theorem cnt_bd (l : List Nodes.D) (ts : List ByteArray) (nm : ByteArray) : cnt l ts nm ≤ ts.length := List.length_filter_le _ _
theorem sumS_bd (l : List Nodes.D) (ts : List ByteArray) : ∀ k, k ≤ l.length → sumS l ts k ≤ k * ts.length
  | 0, _ => by simp [sumS]
  | k + 1, h => by
    rw [sumS_succ l ts k (by omega)]
    have h1 := sumS_bd l ts k (by omega)
    have h2 := cnt_bd l ts (l.getD k Nodes.zero).name
    rw [Nat.add_mul]
    omega
theorem sumS_all {l : List Nodes.D} (h : NodesM.gnB l = true) (ts : List ByteArray) : sumS l ts l.length = ts.length := by
  unfold sumS
  rw [List.take_of_length_le (by rw [List.length_map]; exact Nat.le_refl _)]
  exact cnt_sum h ts
theorem shK_get (l : List Nodes.D) (ts : List ByteArray) (k : Nat) (h : k < l.length) : (shK l ts).getD k 0 = ((cnt l ts (l.getD k Nodes.zero).name : Nat) : Int) := by
  unfold shK
  simp [List.getD_eq_getElem?_getD, List.getElem?_eq_getElem h]
theorem l_cons {l : List Nodes.D} (h : 1 ≤ l.length) : l = l.getD 0 Nodes.zero :: l.drop 1 := by
  cases l with
  | nil => simp at h
  | cons x r => rfl
theorem own_two {l : List Nodes.D} (h : NodesM.gnB l = true) (h2 : 2 ≤ l.length) (key : ByteArray) : ownK l key = (l.getD 0 Nodes.zero).name ∨ ownK l key = ownK (l.drop 1) key := by
  have e := l_cons (l := l) (by omega)
  have hr : l.drop 1 ≠ [] := fun e' => by have := congrArg List.length e'; simp at this; omega
  have h' := h
  rw [e] at h'
  have := own_rest h' hr key
  rw [← e] at this
  exact this
theorem tail_good {l : List Nodes.D} (h : NodesM.gnB l = true) (h2 : 2 ≤ l.length) : NodesM.gnB (l.drop 1) = true := by
  have e := l_cons (l := l) (by omega)
  have hr : l.drop 1 ≠ [] := fun e' => by have := congrArg List.length e'; simp at this; omega
  have h' := h
  rw [e] at h'
  exact gn_tail h' hr
theorem moved_two {l : List Nodes.D} (h : NodesM.gnB l = true) (h2 : 2 ≤ l.length) {ts : List ByteArray} (hk : kB ts = true) : movOk l (l.drop 1) ts = true ∧ (movL l (l.drop 1) ts).length = cnt l ts (l.getD 0 Nodes.zero).name := by
  have e := l_cons (l := l) (by omega)
  have hr : l.drop 1 ≠ [] := fun e' => by have := congrArg List.length e'; simp at this; omega
  have hok : movOk l (l.drop 1) ts = true := by unfold movOk; rw [h, tail_good h h2, hk]; rfl
  refine ⟨hok, ?_⟩
  unfold movL
  rw [hok, if_pos rfl]
  have h' := h
  rw [e] at h'
  have := moved_cnt h' hr ts
  rw [← e] at this
  exact this
theorem getD_drop (l : List Nodes.D) (i : Nat) : (l.drop 1).getD i Nodes.zero = l.getD (i + 1) Nodes.zero := by
  simp [List.getD_eq_getElem?_getD]
theorem str_same {a b : ByteArray} (h : (a.toList == b.toList) = true) : a = b := by
  apply Go.WideShapes.bytes_inj
  rw [← Lib.toList_data, ← Lib.toList_data]
  exact eq_of_beq h

set_option maxRecDepth 100000 in
set_option maxHeartbeats 4000000 in
theorem walk (a0 : Option Addr) (cap0 n0 : Nat) (z : Nat → Int) (w : World) (hc : Cur.BAt w a0 n0 z) (hl0 : n0 ≤ maxLen) (hv : Vars w) :
    Calls Tryd.prog 3 #[.slice a0 n0 cap0] w fun e w' => e = .returned (.bool true) ∧ Below w.heap.size w w' := by
  by_cases hbig : 1048576 < (n0 : Int)
  · clear hc
    go_enter Tryd.func3, Tryd.ntmps3
    go_wp2
    go_ret
    exact ⟨rfl, Below.refl _ _⟩
  have HD := hide (Cur.drawShares_any a0 n0 cap0 z w hc (by omega))
  have HV := hide hv
  clear hc hv
  go_enter Tryd.func3, Tryd.ntmps3
  go_wp2_with fail
  refine (unhide HD).mono ?_
  rintro e w2 ⟨l, b, cb, ts, d, cd, rfl, ⟨hl6, hlc⟩, hls, hlat, ht61, hts, hsat, hb2⟩
  have B2 := hide hb2
  have V2 := hide ((unhide HV).below hb2)
  clear HD hb2
  by_cases hnil : l = []
  · subst hnil
    clear hlat hls hsat hts
    have HN1 := hide (ishares_nil b cb d ts.length cd)
    have HN2 := hide (sshares_nil b cb d ts.length cd)
    have HN3 := hide same_nil
    simp only [List.length_nil]
    go_wp2_with fail
    refine (unhide HN1 _).mono ?_
    rintro e w3 ⟨rfl, hb3⟩
    have B3 := hide ((unhide B2).trans (hb3.mono (unhide B2).size))
    clear hb3
    go_wp2_with fail
    refine (unhide HN2 _).mono ?_
    rintro e w4 ⟨rfl, hb4⟩
    have B4 := hide ((unhide B3).trans (hb4.mono (unhide B3).size))
    clear hb4
    go_wp2_with fail
    refine (unhide HN3 _ _ _ _ _).mono ?_
    rintro e w5 ⟨rfl, hb5⟩
    have B5 := hide ((unhide B4).trans (hb5.mono (unhide B4).size))
    clear hb5
    go_wp2
    go_ret
    exact ⟨rfl, unhide B5⟩
  obtain ⟨nb, no, rfl, hnb, hnc⟩ := hlat hnil
  have hl1 : 1 ≤ l.length := by
    cases l with
    | nil => exact absurd rfl hnil
    | cons x r => simp
  have hfit : ∀ x ∈ l, Nodes.Fits x := fun x hx => by have := hls x hx; unfold Nodes.Fits maxLen; omega
  have hks : ∀ s ∈ ts, s.size ≤ maxLen := fun s hs => by have := hts s hs; unfold maxLen; omega
  have hlm : l.length ≤ maxLen := by unfold maxLen; omega
  have htm : ts.length ≤ maxLen := by unfold maxLen; omega
  have HNC := hide hnc
  have HSAT := hide hsat
  have HFIT := hide hfit
  have HKS := hide hks
  have HIS := hide (shares_opt nb no cb l d cd ts w2 hnb hnc hlm hfit hsat htm hks (unhide V2))
  have HSS := hide (fun w1 (hb1 : Below w2.heap.size w2 w1) => mshares_opt nb no cb l d cd ts w1 (Nat.lt_of_lt_of_le hnb hb1.size) (fun i hi => (hnc i hi).below hb1 hnb) hlm hfit (hsat.below hb1 (Nat.le_refl _)) htm hks)
  have HRL : Hid (shL l ts = if shOk l ts then shK l ts else []) := rfl
  have HOK : Hid (shOk l ts = (NodesM.gnB l && kB ts)) := rfl
  clear hnc hsat hfit hks hlat hnil hls hts
  generalize hR : shL l ts = R at HIS HSS HRL
  generalize hok : shOk l ts = ok at HIS HSS HRL HOK
  have hR60 : R.length ≤ 60 := by
    rw [unhide HRL]
    split
    · simp [shK]; omega
    · simp
  have hoo : (ok != ok) = false := by cases ok <;> rfl
  clear hR hok
  go_wp2_with fail
  refine (unhide HIS).mono ?_
  rintro e w3 ⟨a3, c3, r3, rfl, ho3, -, hb3⟩
  have b23 := hide hb3
  have O3 := hide ho3
  clear ho3 hb3 HIS
  go_wp2_with fail
  refine (unhide HSS _ (unhide b23)).mono ?_
  rintro e w4 ⟨a4, c4, r4, rfl, ho4, -, hb4⟩
  have b24 := hide ((unhide b23).trans (hb4.mono (unhide b23).size))
  have O34 := hide ((unhide O3).below hb4 (Nat.le_refl _))
  have O4 := hide ho4
  clear ho4 hb4 HSS O3 b23
  have HSM := hide (same_ours a3 a4 c3 c4 R r3 r4 w4 (unhide O34) (unhide O4) hR60)
  go_wp2_with fail
  refine (unhide HSM).mono ?_
  rintro e w5 ⟨rfl, hb5⟩
  have b25 := hide ((unhide b24).trans (hb5.mono (unhide b24).size))
  have O35 := hide ((unhide O34).below hb5 (Nat.le_refl _))
  clear hb5 HSM O34 O4 b24
  have B5 := hide ((unhide B2).trans ((unhide b25).mono (unhide B2).size))
  cases ok
  · have h0 : R = [] := unhide HRL
    subst h0
    simp only [List.length_nil]
    go_wp2
    go_ret
    exact ⟨rfl, unhide B5⟩
  have hgk : NodesM.gnB l = true ∧ kB ts = true := by have := (unhide HOK).symm; rwa [Bool.and_eq_true] at this
  obtain rfl : R = shK l ts := unhide HRL
  have hRl : (shK l ts).length = l.length := by simp [shK]
  rw [hRl] at O35 ⊢
  obtain ⟨g3, hg3, hrow⟩ : ∃ g, a3 = some ⟨g, 0, none⟩ ∧ RowAt w5 g 3 l.length (ncell (shK l ts)) := by
    rcases unhide O35 with ⟨h0, _⟩ | ⟨g, ha, _, hr⟩
    · omega
    · exact ⟨g, ha, hr⟩
  subst hg3
  have hgl := hrow.lt
  have HROW := hide hrow
  have HSH := hide (fun k hk => shK_get l ts k hk)
  have HSU := hide (fun k hk => sumS_succ l ts k hk)
  have HSB := hide (sumS_bd l ts)
  have HSA := hide (sumS_all hgk.1 ts)
  have HCB := hide (cnt_bd l ts)
  have HGN := hide hgk.1
  have HKB := hide hgk.2
  clear hrow hgk O35 HRL HOK hRl hR60 hoo
  go_wp2_with fail
  go_loopw [9, 57] (fun av iv wr => ∃ (k y : Nat), k ≤ l.length ∧ iv = .int .i64 (k : Int) ∧ av = .int .i64 (y : Int) ∧ y ≤ 1000 ∧ Hid (y = sumS l ts k) ∧ Hid (Below w5.heap.size w5 wr)) (fun _ iv _ => l.length - (intOf iv).toNat)
  case atStart => exact ⟨0, 0, Nat.zero_le _, rfl, rfl, by omega, hide rfl, hide (Below.refl _ _)⟩
  case round =>
    obtain ⟨k, y, hk, rfl, rfl, hy, hys, hb⟩ := hrel
    by_cases hlt : k < l.length
    · have c1 : wr.cell? ⟨g3, k, none⟩ = some (.int .i64 ((shK l ts).getD k 0)) := ((unhide hb).cell (p := ⟨g3, k, none⟩) hgl).trans ((unhide HROW).cell hlt)
      rw [unhide HSH k hlt] at c1
      have hcb := unhide HCB (l.getD k Nodes.zero).name
      have hsu := unhide HSU k hlt
      have hsb := unhide HSB (k + 1) (by omega)
      generalize cnt l ts (l.getD k Nodes.zero).name = q at c1 hcb hsu
      have hys' := unhide hys
      have hyq : y + q ≤ 1000 := by
        have : (k + 1) * ts.length ≤ 6 * 61 := Nat.mul_le_mul (by omega) ht61
        omega
      have HYQ : Hid (y + q = sumS l ts (k + 1)) := hide (by rw [hsu, ← hys'])
      have hw : IntKind.i64.wrap ((y : Int) + (q : Int)) = ((y + q : Nat) : Int) := by rw [IntKind.wrap_i64]; omega
      clear hsu hsb hys' hys
      go_wp2
      go_roundw
      case rel => exact ⟨k + 1, y + q, by omega, by go_num, by first | rfl | go_num, hyq, HYQ, hb⟩
      case measure => simp [intOf]; omega
    · obtain rfl : k = l.length := by omega
      have hyt : y = ts.length := (unhide hys).trans (unhide HSA)
      subst hyt
      have B6 := hide ((unhide B5).trans ((unhide hb).mono (unhide B5).size))
      have b26 := hide ((unhide b25).trans ((unhide hb).mono (unhide b25).size))
      have htt : ((ts.length : Int) != (ts.length : Int)) = false := by simp
      by_cases hl2 : l.length < 2
      · have hl2' : ((l.length : Int) < 2) := by omega
        clear hys
        go_wp2
        go_ret
        exact ⟨rfl, unhide B6⟩
      have hl2' : ¬ ((l.length : Int) < 2) := by omega
      have hcb1 : ¬ cb = 1 := by omega
      have h2 : 2 ≤ l.length := by omega
      obtain ⟨hmok, hmlen⟩ := moved_two (unhide HGN) h2 (unhide HKB)
      have HOWN := hide (own_two (unhide HGN) h2)
      have HGT := tail_good (unhide HGN) h2
      have hrl : (l.drop 1).length = l.length - 1 := by simp
      have HTC : Hid (∀ i, i < (l.drop 1).length → Nodes.At w2 nb (no + 2 + i * 2) ((l.drop 1).getD i Nodes.zero)) := fun i hi => by
        rw [getD_drop, show no + 2 + i * 2 = no + (i + 1) * 2 by omega]
        exact unhide HNC (i + 1) (by omega)
      have HTF : Hid (∀ x ∈ l.drop 1, Nodes.Fits x) := fun x hx => unhide HFIT x (List.mem_of_mem_drop hx)
      have HMV := hide (moved_opt nb no cb l nb (no + 2) (cb - 1) (l.drop 1) d cd ts wr (Nat.lt_of_lt_of_le hnb (unhide b26).size) (fun i hi => (unhide HNC i hi).below (unhide b26) hnb) hlm (unhide HFIT) (Nat.lt_of_lt_of_le hnb (unhide b26).size) (fun i hi => (unhide HTC i hi).below (unhide b26) hnb) (by omega) (unhide HTF) ((unhide HSAT).below (unhide b26) (Nat.le_refl _)) htm (unhide HKS) ((unhide V2).below (unhide b26)))
      rw [hmok, hmlen, hrl] at HMV
      have HOW1 := hide (fun key w1 (hb1 : Below w2.heap.size w2 w1) hk => ownerOf_any nb no cb l key w1 (Nat.lt_of_lt_of_le hnb hb1.size) (fun i hi => (unhide HNC i hi).below hb1 hnb) hlm (unhide HFIT) hk ((unhide V2).below hb1))
      have HOW2 := hide (fun key w1 (hb1 : Below w2.heap.size w2 w1) hk => ownerOf_any nb (no + 2) (cb - 1) (l.drop 1) key w1 (Nat.lt_of_lt_of_le hnb hb1.size) (fun i hi => (unhide HTC i hi).below hb1 hnb) (by omega) (unhide HTF) hk ((unhide V2).below hb1))
      have HK1 : Hid (∀ key, GoodKey.gk key.data.toList = true → ownL l key = ownK l key ∧ (NodesM.gnB l && GoodKey.gk key.data.toList) = true) := fun key h => by
        unfold ownL; rw [unhide HGN, h]; exact ⟨rfl, rfl⟩
      have HK2 : Hid (∀ key, GoodKey.gk key.data.toList = true → ownL (l.drop 1) key = ownK (l.drop 1) key ∧ (NodesM.gnB (l.drop 1) && GoodKey.gk key.data.toList) = true) := fun key h => by
        unfold ownL; rw [HGT, h]; exact ⟨rfl, rfl⟩
      rw [hrl] at HOW2
      have hx0 : w2.cell? ⟨nb, no, none⟩ = some (.string (l.getD 0 Nodes.zero).name) := by simpa using (unhide HNC 0 (by omega)).1
      have HX0 := hide hx0
      clear hx0
      have hsh0 : wr.cell? ⟨g3, 0, none⟩ = some (.int .i64 ((shK l ts).getD 0 0)) := ((unhide hb).cell (p := ⟨g3, 0, none⟩) hgl).trans ((unhide HROW).cell (by omega))
      rw [unhide HSH 0 (by omega)] at hsh0
      have HST := hide (fun k hk => cnt_step l ts k hk (l.getD 0 Nodes.zero).name)
      have HTA : Hid (cnt l (ts.take ts.length) (l.getD 0 Nodes.zero).name = cnt l ts (l.getD 0 Nodes.zero).name) := hide (by rw [List.take_length])
      have hcq := unhide HCB (l.getD 0 Nodes.zero).name
      have HKG := hide ((kB_len (unhide HKB)).2)
      clear hmok hmlen HGT HTC HTF HSH HSU HSB HSA HCB hys
      generalize (l.getD 0 Nodes.zero).name = xn at *
      generalize hcn : cnt l ts xn = cn at *
      have HCN := hide hcn
      clear hcn
      go_wp2_with fail
      refine (unhide HMV).mono ?_
      rintro e w7 ⟨am, cm, rm, rfl, -, -, hb7⟩
      have b27 := hide ((unhide b26).trans (hb7.mono (unhide b26).size))
      have B7 := hide ((unhide B6).trans (hb7.mono (unhide B6).size))
      have SH7 := hide ((hb7.cell (p := ⟨g3, 0, none⟩) (Nat.lt_of_lt_of_le hgl (unhide hb).size)).trans hsh0)
      have hg7 : g3 < w7.heap.size := Nat.lt_of_lt_of_le (Nat.lt_of_lt_of_le hgl (unhide hb).size) hb7.size
      clear hb7 hsh0 HMV B6 b26
      go_wp2_with fail
      go_loopw [14, 84] (fun mv iv wk => ∃ (k m : Nat), k ≤ ts.length ∧ iv = .int .i64 (k : Int) ∧ mv = .int .i64 (m : Int) ∧ m ≤ k ∧ Hid (m = cnt l (ts.take k) xn) ∧ Hid (Below w7.heap.size w7 wk)) (fun _ iv _ => ts.length - (intOf iv).toNat)
      case atStart => exact ⟨0, 0, Nat.zero_le _, rfl, rfl, Nat.le_refl _, hide (by simp [cnt]), hide (Below.refl _ _)⟩
      case round =>
        obtain ⟨k, m, hk, rfl, rfl, hmk, hm, hbk⟩ := hrel
        have b2k := hide ((unhide b27).trans ((unhide hbk).mono (unhide b27).size))
        by_cases hlt : k < ts.length
        · obtain ⟨kb, ko, hd, hkb, hkc⟩ := unhide HSAT (fun e => by rw [e] at hlt; simp at hlt)
          subst hd
          have ck := ((unhide b2k).cell (p := ⟨kb, ko + k, none⟩) hkb).trans (hkc k hlt)
          have hmem : ts.getD k ByteArray.empty ∈ ts := by rw [List.getD_eq_getElem?_getD, List.getElem?_eq_getElem hlt]; exact List.getElem_mem _
          have hsz := unhide HKS _ hmem
          have hgk : GoodKey.gk (ts.getD k ByteArray.empty).data.toList = true := unhide HKG _ hmem
          have h1 := unhide HOW1 (ts.getD k ByteArray.empty) wr (unhide b2k) hsz
          rw [(unhide HK1 _ hgk).1, (unhide HK1 _ hgk).2] at h1
          have h2' := fun w1 hb1 => unhide HOW2 (ts.getD k ByteArray.empty) w1 hb1 hsz
          rw [(unhide HK2 _ hgk).1, (unhide HK2 _ hgk).2] at h2'
          have hst := unhide HST k hlt
          have how := unhide HOWN (ts.getD k ByteArray.empty)
          have H1 := hide h1
          have H2 := hide h2'
          have HSTP := hide hst
          clear hkc hmem hgk h1 h2' hst
          generalize ownK l (ts.getD k ByteArray.empty) = xa at H1 how HSTP
          generalize ownK (l.drop 1) (ts.getD k ByteArray.empty) = xb at H2 how
          generalize ts.getD k ByteArray.empty = s at ck hsz H1 H2
          go_wp2_with fail
          refine (unhide H1).mono ?_
          rintro e w8 ⟨rfl, hb8⟩
          have b28 := hide ((unhide b2k).trans (hb8.mono (unhide b2k).size))
          have b78 := hide ((unhide hbk).trans (hb8.mono (unhide hbk).size))
          clear hb8 ck
          go_wp2_with fail
          refine (unhide H2 _ (unhide b28)).mono ?_
          rintro e w9 ⟨rfl, hb9⟩
          have b29 := hide ((unhide b28).trans (hb9.mono (unhide b28).size))
          have b79 := hide ((unhide b78).trans (hb9.mono (unhide b78).size))
          have c0 := ((unhide b29).cell (p := ⟨nb, no, none⟩) hnb).trans (unhide HX0)
          have hl0' : (0 : Int) < (l.length : Int) := by omega
          clear hb9 b78 b28
          by_cases hxa : (xa.toList == xn.toList) = true
          · have e1 : (xa.toList != xn.toList) = false := by simp [bne, hxa]
            have HM : Hid (m + 1 = cnt l (ts.take (k + 1)) xn) := hide (by rw [unhide HSTP, if_pos hxa, ← unhide hm])
            have hw : IntKind.i64.wrap ((m : Int) + 1) = ((m + 1 : Nat) : Int) := by rw [IntKind.wrap_i64]; omega
            clear how hm
            go_wp2
            go_roundw
            case rel => exact ⟨k + 1, m + 1, by omega, by go_num, by first | rfl | go_num, by omega, HM, b79⟩
            case measure => simp [intOf]; omega
          · have hxa' : (xa.toList == xn.toList) = false := by simpa using hxa
            have e1 : (xa.toList != xn.toList) = true := by simp [bne, hxa']
            have hab : xa = xb := how.resolve_left (fun e => hxa (by rw [e]; simp))
            subst hab
            have e2 : (xa.toList != xa.toList) = false := by simp
            have e3 : (xa.toList == xa.toList) = true := by simp
            have HM : Hid (m = cnt l (ts.take (k + 1)) xn) := hide (by rw [unhide HSTP, if_neg hxa, ← unhide hm]; rfl)
            clear how hm hxa
            go_wp2
            go_roundw
            case rel => exact ⟨k + 1, m, by omega, by go_num, rfl, by omega, HM, b79⟩
            case measure => simp [intOf]; omega
        · obtain rfl : k = ts.length := by omega
          have hmc : m = cn := (unhide hm).trans (unhide HTA)
          subst hmc
          have c0 := ((unhide hbk).cell (p := ⟨g3, 0, none⟩) hg7).trans (unhide SH7)
          have BE := hide ((unhide B7).trans ((unhide hbk).mono (unhide B7).size))
          have hl0' : (0 : Int) < (l.length : Int) := by omega
          have emm : ((m : Int) == (m : Int)) = true := by simp
          clear hm hlt
          go_wp2
          go_ret
          exact ⟨rfl, unhide BE⟩
end RingL
end Go.Proofs.YtoinbldoioffdaaDoor
