/-
  The program's readValue: an item from the front of a text, and what is behind it.
-/
import Derived.Test.YtghckjmpcokhcaaGreatDoorRdK
import Derived.Deep.RegionHeld3
import Derived.Deep.DeepCutAuto
import Derived.Test.YtghckjmpcokhcaaGreatDoorMergeGZ
import Derived.Laws.AppendOwn
namespace Go.Proofs.YtghckjmpcokhcaaGreatDoor
namespace Rd
open Go.RowKit Base Items Store GoodKey NumText Sp Count Vals Marks
set_option linter.unusedVariables false

def rvV : Option (Itm × ByteArray) → Value
  | some (x, r) => .tuple #[.agg #[.string x.key, .int .i64 x.flags, .string x.data, .int .i64 x.upto, .int .i64 x.token], .string r, .bool true]
  | none => .tuple #[.agg #[.string ByteArray.empty, .int .i64 0, .string ByteArray.empty, .int .i64 0, .int .i64 0], .string ByteArray.empty, .bool false]

set_option maxRecDepth 10000 in
set_option maxHeartbeats 4000000 in
theorem readValue_any (s : ByteArray) (token : Bool) (w : World) (hs : s.size ≤ 1048576) (hv : V2 w) :
    Calls Tryz.prog 65 #[.string s, .bool token] w fun e w' => e = .returned (rvV (rv s token)) ∧ Below w.heap.size w w' := by
  have HV := hide hv
  have HCUT := hide (fun w' hv => cut_any s w' hs hv)
  obtain ⟨hz1, hz2⟩ := line_size s
  have HSPL := hide (fun w' hv => split_any (lineB s) w' (by omega) hv)
  have hsh := words_short (lineB s) (by omega)
  have HRV : Hid (rv s token = if okH (hd (wordsB (lineB s)) token) token = true then
    if (restB s).size < (hd (wordsB (lineB s)) token).size.toNat + 2 then none
    else if (restB s).extract (hd (wordsB (lineB s)) token).size.toNat ((hd (wordsB (lineB s)) token).size.toNat + 2) = Shelf.endS then
      some (item (hd (wordsB (lineB s)) token) ((restB s).extract 0 (hd (wordsB (lineB s)) token).size.toNat), (restB s).extract ((hd (wordsB (lineB s)) token).size.toNat + 2) (restB s).size)
    else none
  else none) := rfl
  generalize rv s token = RV at HRV ⊢
  generalize lineB s = ln at HCUT HSPL hsh HRV
  generalize hrs : restB s = rs at HCUT HRV hz2
  generalize wordsB ln = ws at HSPL hsh HRV
  clear hrs
  have HSH := hide hsh
  clear hsh hv
  cases token
  · have HHD : Hid (hd ws false = ⟨(nx ⟨ws, false⟩).1, (ky (nx ⟨ws, false⟩).2).1, (nm (ky (nx ⟨ws, false⟩).2).2 1000000000).1, (nm (nm (ky (nx ⟨ws, false⟩).2).2 1000000000).2 100).1, 0, (nm (nm (ky (nx ⟨ws, false⟩).2).2 1000000000).2 100).2⟩) := rfl
    have sh1 := nx_sh (s := ⟨ws, false⟩) (unhide HSH)
    have sh2 := ky_sh sh1
    have sh3 := nm_sh (m := 1000000000) sh2
    have sh4 := nm_sh (m := 100) sh3
    have hkz : (ky (nx ⟨ws, false⟩).2).1.size ≤ 1048576 := (nx_short sh1).1
    have HNX := hide (fun b W h => next_any b ⟨ws, false⟩ W h)
    have HKY := hide (fun b W h => key_any b (nx ⟨ws, false⟩).2 W h sh1)
    have HN1 := hide (fun b W h hv hbv => number_any b (ky (nx ⟨ws, false⟩).2).2 1000000000 W h sh2 (by omega) (by omega) hv hbv)
    have HN2 := hide (fun b W h hv hbv => number_any b (nm (ky (nx ⟨ws, false⟩).2).2 1000000000).2 100 W h sh3 (by omega) (by omega) hv hbv)
    clear sh1 sh2 sh3 sh4
    generalize nx ⟨ws, false⟩ = A at HHD HNX HKY HN1 HN2 hkz
    generalize ky A.2 = K at HHD HKY HN1 HN2 hkz
    generalize nm K.2 1000000000 = F at HHD HN1 HN2
    generalize nm F.2 100 = N at HHD HN2
    obtain ⟨av, ast⟩ := A
    obtain ⟨kv, kst⟩ := K
    obtain ⟨fv, fst⟩ := F
    obtain ⟨nv, nst⟩ := N
    obtain ⟨lws, lbad⟩ := nst
    dsimp only at HHD HNX HKY HN1 HN2 hkz
    generalize hHH : hd ws false = HH at HRV HHD
    have hHE := unhide HHD
    subst hHE
    have HHW := hide hHH
    clear HHD hHH
    go_enter Tryz.func65, Tryz.ntmps65
    go_wp2_with fail
    refine (unhide HCUT _ ((unhide HV).below (bel1 w _))).mono ?_
    rintro e w1 ⟨⟨f, rfl⟩, hb1⟩
    have B1 := hide ((bel1 w _).trans (hb1.mono (by simp)))
    have I1 := hide ((IB.new w).below hb1)
    have hz1 : w.heap.size < w1.heap.size := by have := hb1.size; simp at this; omega
    clear hb1
    go_wp2_with fail
    refine (unhide HSPL _ ((unhide HV).below (unhide B1))).mono ?_
    rintro e w2 ⟨rfl, hw2⟩
    rw [hw2]
    clear hw2 w2
    go_wp2_with fail
    have hA : All3 w ((w1.alloc (.cells (ws.map Value.string).toArray 9)).alloc (.cells #[.slice (some ⟨w1.heap.size, 0, none⟩) ws.length ws.length, .bool false] 132)) w.heap.size (w1.heap.size + 1) ⟨ws, false⟩ := all3_start (unhide B1) (unhide I1) ws
    generalize (w1.alloc (.cells (ws.map Value.string).toArray 9)).alloc (.cells #[.slice (some ⟨w1.heap.size, 0, none⟩) ws.length ws.length, .bool false] 132) = w3 at hA ⊢
    have A3 := hide hA
    clear hA B1 I1
    generalize hbb : w1.heap.size + 1 = b at A3 ⊢
    have hwb : w.heap.size < b := by omega
    clear hbb hz1
    refine (unhide HNX b w3 (unhide A3).rd).mono ?_
    rintro e w4 ⟨rfl, hr4, hg4⟩
    have A4 := hide ((unhide A3).gb hg4 hr4 hwb)
    clear hr4 hg4 A3
    go_wp2_with fail
    have A5 := hide ((unhide A4).item)
    have hXb : b < w4.heap.size := (unhide A4).rd.lt
    generalize w4.alloc (.cells #[.string { data := #[] }, .int .i64 0, .string { data := #[] }, .int .i64 0, .int .i64 0] 35) = w5 at A5 ⊢
    generalize w4.heap.size = X at A5 hXb ⊢
    clear A4
    refine (unhide HKY b w5 (unhide A5).rd).mono ?_
    rintro e w6 ⟨rfl, hr6, hg6⟩
    have A6 := hide ((unhide A5).gb hg6 hr6 (by omega) (by omega) (by omega))
    clear hr6 hg6 A5
    obtain ⟨i0, i1, i2, i3, i4, if0, il⟩ := (unhide A6).it.cells
    have A7 := hide ((unhide A6).put ((unhide A6).it.key kv) (by omega) (by omega) (by omega))
    go_wp2_with fail
    generalize w6.setCell ⟨X, 0, none⟩ (.string kv) = w7 at A7 ⊢
    clear A6 i0 i1 i2 i3 i4 if0 il
    refine (unhide HN1 b w7 (unhide A7).rd ((unhide HV).below (unhide A7).bel).vars (hide (fun W' hg => ((unhide HV).below (((unhide A7).bel).grown hg (unhide A7).bel.size (fun k e => by simp at e; omega))).vars))).mono ?_
    rintro e w8 ⟨rfl, hr8, hg8⟩
    have A8 := hide ((unhide A7).gb hg8 hr8 (by omega) (by omega) (by omega))
    clear hr8 hg8 A7
    obtain ⟨i0, i1, i2, i3, i4, if0, il⟩ := (unhide A8).it.cells
    have A9 := hide ((unhide A8).put ((unhide A8).it.flags fv) (by omega) (by omega) (by omega))
    go_wp2_with fail
    generalize w8.setCell ⟨X, 1, none⟩ (.int .i64 fv) = w9 at A9 ⊢
    clear A8 i0 i1 i2 i3 i4 if0 il
    refine (unhide HN2 b w9 (unhide A9).rd ((unhide HV).below (unhide A9).bel).vars (hide (fun W' hg => ((unhide HV).below (((unhide A9).bel).grown hg (unhide A9).bel.size (fun k e => by simp at e; omega))).vars))).mono ?_
    rintro e w10 ⟨rfl, hr10, hg10⟩
    have A10 := hide ((unhide A9).gb hg10 hr10 (by omega) (by omega) (by omega))
    clear hr10 hg10 A9
    go_upto_region 10 with fail
    obtain ⟨ra, rcap, rh1, rh2, rh3⟩ := (unhide A10).rd
    obtain ⟨c0, c1, cf, cl⟩ := rb_cells rh1
    clear rh1 rh2 rh3
    obtain ⟨i0, i1, i2, i3, i4, if0, il⟩ := (unhide A10).it.cells
    dsimp only [zero] at c0 c1 i0 i1 i2 i3 i4
    have hRz : w.heap.size < w10.heap.size := (unhide A10).res.cells.2.2.2.2.2.2
    have hGV := fun W' => goodValue_any ⟨kv, fv, ByteArray.empty, 0, 0⟩ false W' ⟨by unfold maxLen; exact Nat.le_trans hkz (by decide), by simp [maxLen]⟩
    by_cases e1 : av = wordS
    case neg =>
      have e1' : (av.toList == [86, 65, 76, 85, 69]) = false := word_ne e1
      have HN0 := unhide HRV
      rw [if_neg (ok_no (.inl e1))] at HN0
      subst HN0
      clear HRV hGV HV HCUT HSPL HSH HNX HKY HN1 HN2 HHW
      obtain ⟨r0, r1, r2, r3, r4, rf, rl⟩ := (unhide A10).res.cells
      dsimp only [zero] at r0 r1 r2 r3 r4
      have B := hide (unhide A10).bel
      go_wp2
      refine bodyPost_ret (v := rvV none) (by simp [results, Tryz.results65, go_sem, rvV, r0, r1, r2, r3, r4]; rfl) rfl ⟨rfl, ?_⟩
      repeat (refine Below.setCell ?_ (by simp) _)
      exact unhide B
    have e1' : (av.toList == [86, 65, 76, 85, 69]) = true := word_eq e1
    have E1 := hide e1
    clear e1
    cases lbad
    case true =>
      have HN0 := unhide HRV
      rw [if_neg (ok_no (.inr (.inl rfl)))] at HN0
      subst HN0
      clear HRV hGV HV HCUT HSPL HSH HNX HKY HN1 HN2 HHW
      obtain ⟨r0, r1, r2, r3, r4, rf, rl⟩ := (unhide A10).res.cells
      dsimp only [zero] at r0 r1 r2 r3 r4
      have B := hide (unhide A10).bel
      go_wp2
      refine bodyPost_ret (v := rvV none) (by simp [results, Tryz.results65, go_sem, rvV, r0, r1, r2, r3, r4]; rfl) rfl ⟨rfl, ?_⟩
      repeat (refine Below.setCell ?_ (by simp) _)
      exact unhide B
    by_cases e2 : lws = []
    case neg =>
      have e2' : 0 < lws.length := List.length_pos_iff.2 e2
      have HN0 := unhide HRV
      rw [if_neg (ok_no (.inr (.inr (.inl e2))))] at HN0
      subst HN0
      clear HRV hGV HV HCUT HSPL HSH HNX HKY HN1 HN2 HHW
      obtain ⟨r0, r1, r2, r3, r4, rf, rl⟩ := (unhide A10).res.cells
      dsimp only [zero] at r0 r1 r2 r3 r4
      have B := hide (unhide A10).bel
      go_wp2
      refine bodyPost_ret (v := rvV none) (by simp [results, Tryz.results65, go_sem, rvV, r0, r1, r2, r3, r4]; rfl) rfl ⟨rfl, ?_⟩
      repeat (refine Below.setCell ?_ (by simp) _)
      exact unhide B
    subst e2
    dsimp only [List.length_nil] at c0
    cases hq : goodV ⟨kv, fv, ByteArray.empty, 0, 0⟩ false
    · rw [hq] at hGV
      have HGV := hide hGV
      have HN0 := unhide HRV
      rw [if_neg (ok_no (.inr (.inr (.inr hq))))] at HN0
      subst HN0
      clear HRV hGV hq HV HCUT HSPL HSH HNX HKY HN1 HN2 HHW
      go_wp2_with fail
      refine (unhide HGV _).mono ?_
      rintro e wg ⟨rfl, hbg⟩
      have AG := hide ((unhide A10).below hbg)
      clear hbg HGV c0 c1 cf cl i0 i1 i2 i3 i4 if0 il
      obtain ⟨r0, r1, r2, r3, r4, rf, rl⟩ := (unhide AG).res.cells
      dsimp only [zero] at r0 r1 r2 r3 r4
      have B := hide (unhide AG).bel
      go_wp2
      refine bodyPost_ret (v := rvV none) (by simp [results, Tryz.results65, go_sem, rvV, r0, r1, r2, r3, r4]; rfl) rfl ⟨rfl, ?_⟩
      repeat (refine Below.setCell ?_ (by simp) _)
      exact unhide B
    · rw [hq] at hGV
      have HGV := hide hGV
      have hok := ok_yes (w := av) (k := kv) (f := fv) (n := nv) (t := 0) (token := false) (unhide E1) hq
      have HRV1 := unhide HRV
      rw [if_pos hok] at HRV1
      try dsimp only at HRV1
      obtain ⟨n, hn, hn100, -⟩ := hd_sound (ws := ws) (token := false) (by rw [unhide HHW]; exact hok)
      rw [unhide HHW] at hn
      try dsimp only at hn
      subst hn
      rw [Int.toNat_natCast] at HRV1
      have HRV2 := hide HRV1
      clear HRV HRV1 hGV hq hok HV HCUT HSPL HSH HNX HKY HN1 HN2 HHW
      go_wp2_with fail
      refine (unhide HGV _).mono ?_
      rintro e wg ⟨rfl, hbg⟩
      have AG := hide ((unhide A10).below hbg)
      clear hbg HGV c0 c1 cf cl i0 i1 i2 i3 i4 if0 il A10 hRz
      by_cases g1 : rs.size < n + 2
      · have HN0 := unhide HRV2
        rw [if_pos g1] at HN0
        subst HN0
        go_wp2_with fail
        refine (data_short rs n _ (by omega) hn100 g1).mono ?_
        rintro e wd ⟨rfl, hbd⟩
        have AD := hide ((unhide AG).below hbd)
        clear hbd AG HRV2
        obtain ⟨r0, r1, r2, r3, r4, rf, rl⟩ := (unhide AD).res.cells
        dsimp only [zero] at r0 r1 r2 r3 r4
        have B := hide (unhide AD).bel
        go_wp2
        refine bodyPost_ret (v := rvV none) (by simp [results, Tryz.results65, go_sem, rvV, r0, r1, r2, r3, r4]; rfl) rfl ⟨rfl, ?_⟩
        repeat (refine Below.setCell ?_ (by simp) _)
        exact unhide B
      by_cases g2 : rs.extract n (n + 2) = Shelf.endS
      case neg =>
        have HN0 := unhide HRV2
        rw [if_neg g1, if_neg g2] at HN0
        subst HN0
        go_wp2_with fail
        refine (data_bad rs n _ (by omega) hn100 g1 g2).mono ?_
        rintro e wd ⟨rfl, hbd⟩
        have AD := hide ((unhide AG).below hbd)
        clear hbd AG HRV2
        obtain ⟨r0, r1, r2, r3, r4, rf, rl⟩ := (unhide AD).res.cells
        dsimp only [zero] at r0 r1 r2 r3 r4
        have B := hide (unhide AD).bel
        go_wp2
        refine bodyPost_ret (v := rvV none) (by simp [results, Tryz.results65, go_sem, rvV, r0, r1, r2, r3, r4]; rfl) rfl ⟨rfl, ?_⟩
        repeat (refine Below.setCell ?_ (by simp) _)
        exact unhide B
      have HN0 := unhide HRV2
      rw [if_neg g1, if_pos g2] at HN0
      subst HN0
      go_wp2_with fail
      refine (data_ok rs n _ (by omega) hn100 g1 g2).mono ?_
      rintro e wd ⟨rfl, hbd⟩
      have AD := hide ((unhide AG).below hbd)
      clear hbd AG HRV2 g2
      obtain ⟨i0, i1, i2, i3, i4, if0, il⟩ := (unhide AD).it.cells
      have AE := hide ((unhide AD).put ((unhide AD).it.data (rs.extract 0 n)) (by omega) (by omega) (by omega))
      have hwz : (n : Int) + 2 ≤ (rs.size : Int) := by omega
      have hw0 : (0 : Int) ≤ (n : Int) + 2 := by omega
      have hwt : ((n : Int) + 2).toNat = n + 2 := by omega
      go_upto_region 16 with fail
      generalize wd.setCell ⟨X, 2, none⟩ (.string (rs.extract 0 n)) = we at AE ⊢
      clear i0 i1 i2 i3 i4 if0 il AD
      obtain ⟨i0, i1, i2, i3, i4, if0, il⟩ := (unhide AE).it.cells
      obtain ⟨r0, r1, r2, r3, r4, rf, rl⟩ := (unhide AE).res.cells
      dsimp only [zero] at i0 i1 i2 i3 i4 r0 r1 r2 r3 r4
      have B := hide (unhide AE).bel
      have hne : X ≠ w.heap.size := by omega
      have hne2 : w.heap.size ≠ X := by omega
      go_region_held3 (fun Y => Y.cell? ⟨X, 0, none⟩ = some (.string kv) ∧ Y.cell? ⟨X, 1, none⟩ = some (.int .i64 fv) ∧ Y.cell? ⟨X, 2, none⟩ = some (.string (rs.extract 0 n)) ∧ Y.cell? ⟨X, 3, none⟩ = some (.int .i64 0) ∧ Y.cell? ⟨X, 4, none⟩ = some (.int .i64 0)) (go_keep) (fail)
      all_goals go_wp2
      all_goals
        refine bodyPost_ret (v := rvV (some (item ⟨av, kv, fv, (n : Int), 0, ⟨[], false⟩⟩ (rs.extract 0 n), rs.extract (n + 2) rs.size))) (by simp [results, Tryz.results65, go_sem, rvV, item, r0, r1, r2, r3, r4]; done) rfl ⟨rfl, ?_⟩
        refine Below.drew ?_
        repeat (refine Below.setCell ?_ (by simp) _)
        exact unhide B
  · have HHD : Hid (hd ws true = ⟨(nx ⟨ws, false⟩).1, (ky (nx ⟨ws, false⟩).2).1, (nm (ky (nx ⟨ws, false⟩).2).2 1000000000).1, (nm (nm (ky (nx ⟨ws, false⟩).2).2 1000000000).2 100).1, (nm (nm (nm (ky (nx ⟨ws, false⟩).2).2 1000000000).2 100).2 1000000000).1, (nm (nm (nm (ky (nx ⟨ws, false⟩).2).2 1000000000).2 100).2 1000000000).2⟩) := rfl
    have sh1 := nx_sh (s := ⟨ws, false⟩) (unhide HSH)
    have sh2 := ky_sh sh1
    have sh3 := nm_sh (m := 1000000000) sh2
    have sh4 := nm_sh (m := 100) sh3
    have hkz : (ky (nx ⟨ws, false⟩).2).1.size ≤ 1048576 := (nx_short sh1).1
    have HNX := hide (fun b W h => next_any b ⟨ws, false⟩ W h)
    have HKY := hide (fun b W h => key_any b (nx ⟨ws, false⟩).2 W h sh1)
    have HN1 := hide (fun b W h hv hbv => number_any b (ky (nx ⟨ws, false⟩).2).2 1000000000 W h sh2 (by omega) (by omega) hv hbv)
    have HN2 := hide (fun b W h hv hbv => number_any b (nm (ky (nx ⟨ws, false⟩).2).2 1000000000).2 100 W h sh3 (by omega) (by omega) hv hbv)
    have HN3 := hide (fun b W h hv hbv => number_any b (nm (nm (ky (nx ⟨ws, false⟩).2).2 1000000000).2 100).2 1000000000 W h sh4 (by omega) (by omega) hv hbv)
    clear sh1 sh2 sh3 sh4
    generalize nx ⟨ws, false⟩ = A at HHD HNX HKY HN1 HN2 hkz HN3
    generalize ky A.2 = K at HHD HKY HN1 HN2 hkz HN3
    generalize nm K.2 1000000000 = F at HHD HN1 HN2 HN3
    generalize nm F.2 100 = N at HHD HN2 HN3
    generalize nm N.2 1000000000 = T at HHD HN3
    obtain ⟨tv, tst⟩ := T
    obtain ⟨av, ast⟩ := A
    obtain ⟨kv, kst⟩ := K
    obtain ⟨fv, fst⟩ := F
    obtain ⟨nv, nst⟩ := N
    obtain ⟨lws, lbad⟩ := tst
    dsimp only at HHD HNX HKY HN1 HN2 hkz HN3
    generalize hHH : hd ws true = HH at HRV HHD
    have hHE := unhide HHD
    subst hHE
    have HHW := hide hHH
    clear HHD hHH
    go_enter Tryz.func65, Tryz.ntmps65
    go_wp2_with fail
    refine (unhide HCUT _ ((unhide HV).below (bel1 w _))).mono ?_
    rintro e w1 ⟨⟨f, rfl⟩, hb1⟩
    have B1 := hide ((bel1 w _).trans (hb1.mono (by simp)))
    have I1 := hide ((IB.new w).below hb1)
    have hz1 : w.heap.size < w1.heap.size := by have := hb1.size; simp at this; omega
    clear hb1
    go_wp2_with fail
    refine (unhide HSPL _ ((unhide HV).below (unhide B1))).mono ?_
    rintro e w2 ⟨rfl, hw2⟩
    rw [hw2]
    clear hw2 w2
    go_wp2_with fail
    have hA : All3 w ((w1.alloc (.cells (ws.map Value.string).toArray 9)).alloc (.cells #[.slice (some ⟨w1.heap.size, 0, none⟩) ws.length ws.length, .bool false] 132)) w.heap.size (w1.heap.size + 1) ⟨ws, false⟩ := all3_start (unhide B1) (unhide I1) ws
    generalize (w1.alloc (.cells (ws.map Value.string).toArray 9)).alloc (.cells #[.slice (some ⟨w1.heap.size, 0, none⟩) ws.length ws.length, .bool false] 132) = w3 at hA ⊢
    have A3 := hide hA
    clear hA B1 I1
    generalize hbb : w1.heap.size + 1 = b at A3 ⊢
    have hwb : w.heap.size < b := by omega
    clear hbb hz1
    refine (unhide HNX b w3 (unhide A3).rd).mono ?_
    rintro e w4 ⟨rfl, hr4, hg4⟩
    have A4 := hide ((unhide A3).gb hg4 hr4 hwb)
    clear hr4 hg4 A3
    go_wp2_with fail
    have A5 := hide ((unhide A4).item)
    have hXb : b < w4.heap.size := (unhide A4).rd.lt
    generalize w4.alloc (.cells #[.string { data := #[] }, .int .i64 0, .string { data := #[] }, .int .i64 0, .int .i64 0] 35) = w5 at A5 ⊢
    generalize w4.heap.size = X at A5 hXb ⊢
    clear A4
    refine (unhide HKY b w5 (unhide A5).rd).mono ?_
    rintro e w6 ⟨rfl, hr6, hg6⟩
    have A6 := hide ((unhide A5).gb hg6 hr6 (by omega) (by omega) (by omega))
    clear hr6 hg6 A5
    obtain ⟨i0, i1, i2, i3, i4, if0, il⟩ := (unhide A6).it.cells
    have A7 := hide ((unhide A6).put ((unhide A6).it.key kv) (by omega) (by omega) (by omega))
    go_wp2_with fail
    generalize w6.setCell ⟨X, 0, none⟩ (.string kv) = w7 at A7 ⊢
    clear A6 i0 i1 i2 i3 i4 if0 il
    refine (unhide HN1 b w7 (unhide A7).rd ((unhide HV).below (unhide A7).bel).vars (hide (fun W' hg => ((unhide HV).below (((unhide A7).bel).grown hg (unhide A7).bel.size (fun k e => by simp at e; omega))).vars))).mono ?_
    rintro e w8 ⟨rfl, hr8, hg8⟩
    have A8 := hide ((unhide A7).gb hg8 hr8 (by omega) (by omega) (by omega))
    clear hr8 hg8 A7
    obtain ⟨i0, i1, i2, i3, i4, if0, il⟩ := (unhide A8).it.cells
    have A9 := hide ((unhide A8).put ((unhide A8).it.flags fv) (by omega) (by omega) (by omega))
    go_wp2_with fail
    generalize w8.setCell ⟨X, 1, none⟩ (.int .i64 fv) = w9 at A9 ⊢
    clear A8 i0 i1 i2 i3 i4 if0 il
    refine (unhide HN2 b w9 (unhide A9).rd ((unhide HV).below (unhide A9).bel).vars (hide (fun W' hg => ((unhide HV).below (((unhide A9).bel).grown hg (unhide A9).bel.size (fun k e => by simp at e; omega))).vars))).mono ?_
    rintro e w10 ⟨rfl, hr10, hg10⟩
    have A10 := hide ((unhide A9).gb hg10 hr10 (by omega) (by omega) (by omega))
    clear hr10 hg10 A9
    go_wp2_with fail
    refine (unhide HN3 b w10 (unhide A10).rd ((unhide HV).below (unhide A10).bel).vars (hide (fun W' hg => ((unhide HV).below (((unhide A10).bel).grown hg (unhide A10).bel.size (fun k e => by simp at e; omega))).vars))).mono ?_
    rintro e w11 ⟨rfl, hr11, hg11⟩
    have A11 := hide ((unhide A10).gb hg11 hr11 (by omega) (by omega) (by omega))
    clear hr11 hg11 A10
    obtain ⟨i0, i1, i2, i3, i4, if0, il⟩ := (unhide A11).it.cells
    have A12 := hide ((unhide A11).put ((unhide A11).it.token tv) (by omega) (by omega) (by omega))
    go_upto_region 10 with fail
    generalize w11.setCell ⟨X, 4, none⟩ (.int .i64 tv) = w12 at A12 ⊢
    clear A11 i0 i1 i2 i3 i4 if0 il
    obtain ⟨ra, rcap, rh1, rh2, rh3⟩ := (unhide A12).rd
    obtain ⟨c0, c1, cf, cl⟩ := rb_cells rh1
    clear rh1 rh2 rh3
    obtain ⟨i0, i1, i2, i3, i4, if0, il⟩ := (unhide A12).it.cells
    dsimp only [zero] at c0 c1 i0 i1 i2 i3 i4
    have hRz : w.heap.size < w12.heap.size := (unhide A12).res.cells.2.2.2.2.2.2
    have hGV := fun W' => goodValue_any ⟨kv, fv, ByteArray.empty, 0, tv⟩ true W' ⟨by unfold maxLen; exact Nat.le_trans hkz (by decide), by simp [maxLen]⟩
    by_cases e1 : av = wordS
    case neg =>
      have e1' : (av.toList == [86, 65, 76, 85, 69]) = false := word_ne e1
      have HN0 := unhide HRV
      rw [if_neg (ok_no (.inl e1))] at HN0
      subst HN0
      clear HRV hGV HV HCUT HSPL HSH HNX HKY HN1 HN2 HN3 HHW
      obtain ⟨r0, r1, r2, r3, r4, rf, rl⟩ := (unhide A12).res.cells
      dsimp only [zero] at r0 r1 r2 r3 r4
      have B := hide (unhide A12).bel
      go_wp2
      refine bodyPost_ret (v := rvV none) (by simp [results, Tryz.results65, go_sem, rvV, r0, r1, r2, r3, r4]; rfl) rfl ⟨rfl, ?_⟩
      repeat (refine Below.setCell ?_ (by simp) _)
      exact unhide B
    have e1' : (av.toList == [86, 65, 76, 85, 69]) = true := word_eq e1
    have E1 := hide e1
    clear e1
    cases lbad
    case true =>
      have HN0 := unhide HRV
      rw [if_neg (ok_no (.inr (.inl rfl)))] at HN0
      subst HN0
      clear HRV hGV HV HCUT HSPL HSH HNX HKY HN1 HN2 HN3 HHW
      obtain ⟨r0, r1, r2, r3, r4, rf, rl⟩ := (unhide A12).res.cells
      dsimp only [zero] at r0 r1 r2 r3 r4
      have B := hide (unhide A12).bel
      go_wp2
      refine bodyPost_ret (v := rvV none) (by simp [results, Tryz.results65, go_sem, rvV, r0, r1, r2, r3, r4]; rfl) rfl ⟨rfl, ?_⟩
      repeat (refine Below.setCell ?_ (by simp) _)
      exact unhide B
    by_cases e2 : lws = []
    case neg =>
      have e2' : 0 < lws.length := List.length_pos_iff.2 e2
      have HN0 := unhide HRV
      rw [if_neg (ok_no (.inr (.inr (.inl e2))))] at HN0
      subst HN0
      clear HRV hGV HV HCUT HSPL HSH HNX HKY HN1 HN2 HN3 HHW
      obtain ⟨r0, r1, r2, r3, r4, rf, rl⟩ := (unhide A12).res.cells
      dsimp only [zero] at r0 r1 r2 r3 r4
      have B := hide (unhide A12).bel
      go_wp2
      refine bodyPost_ret (v := rvV none) (by simp [results, Tryz.results65, go_sem, rvV, r0, r1, r2, r3, r4]; rfl) rfl ⟨rfl, ?_⟩
      repeat (refine Below.setCell ?_ (by simp) _)
      exact unhide B
    subst e2
    dsimp only [List.length_nil] at c0
    cases hq : goodV ⟨kv, fv, ByteArray.empty, 0, tv⟩ true
    · rw [hq] at hGV
      have HGV := hide hGV
      have HN0 := unhide HRV
      rw [if_neg (ok_no (.inr (.inr (.inr hq))))] at HN0
      subst HN0
      clear HRV hGV hq HV HCUT HSPL HSH HNX HKY HN1 HN2 HN3 HHW
      go_wp2_with fail
      refine (unhide HGV _).mono ?_
      rintro e wg ⟨rfl, hbg⟩
      have AG := hide ((unhide A12).below hbg)
      clear hbg HGV c0 c1 cf cl i0 i1 i2 i3 i4 if0 il
      obtain ⟨r0, r1, r2, r3, r4, rf, rl⟩ := (unhide AG).res.cells
      dsimp only [zero] at r0 r1 r2 r3 r4
      have B := hide (unhide AG).bel
      go_wp2
      refine bodyPost_ret (v := rvV none) (by simp [results, Tryz.results65, go_sem, rvV, r0, r1, r2, r3, r4]; rfl) rfl ⟨rfl, ?_⟩
      repeat (refine Below.setCell ?_ (by simp) _)
      exact unhide B
    · rw [hq] at hGV
      have HGV := hide hGV
      have hok := ok_yes (w := av) (k := kv) (f := fv) (n := nv) (t := tv) (token := true) (unhide E1) hq
      have HRV1 := unhide HRV
      rw [if_pos hok] at HRV1
      try dsimp only at HRV1
      obtain ⟨n, hn, hn100, -⟩ := hd_sound (ws := ws) (token := true) (by rw [unhide HHW]; exact hok)
      rw [unhide HHW] at hn
      try dsimp only at hn
      subst hn
      rw [Int.toNat_natCast] at HRV1
      have HRV2 := hide HRV1
      clear HRV HRV1 hGV hq hok HV HCUT HSPL HSH HNX HKY HN1 HN2 HN3 HHW
      go_wp2_with fail
      refine (unhide HGV _).mono ?_
      rintro e wg ⟨rfl, hbg⟩
      have AG := hide ((unhide A12).below hbg)
      clear hbg HGV c0 c1 cf cl i0 i1 i2 i3 i4 if0 il A12 hRz
      by_cases g1 : rs.size < n + 2
      · have HN0 := unhide HRV2
        rw [if_pos g1] at HN0
        subst HN0
        go_wp2_with fail
        refine (data_short rs n _ (by omega) hn100 g1).mono ?_
        rintro e wd ⟨rfl, hbd⟩
        have AD := hide ((unhide AG).below hbd)
        clear hbd AG HRV2
        obtain ⟨r0, r1, r2, r3, r4, rf, rl⟩ := (unhide AD).res.cells
        dsimp only [zero] at r0 r1 r2 r3 r4
        have B := hide (unhide AD).bel
        go_wp2
        refine bodyPost_ret (v := rvV none) (by simp [results, Tryz.results65, go_sem, rvV, r0, r1, r2, r3, r4]; rfl) rfl ⟨rfl, ?_⟩
        repeat (refine Below.setCell ?_ (by simp) _)
        exact unhide B
      by_cases g2 : rs.extract n (n + 2) = Shelf.endS
      case neg =>
        have HN0 := unhide HRV2
        rw [if_neg g1, if_neg g2] at HN0
        subst HN0
        go_wp2_with fail
        refine (data_bad rs n _ (by omega) hn100 g1 g2).mono ?_
        rintro e wd ⟨rfl, hbd⟩
        have AD := hide ((unhide AG).below hbd)
        clear hbd AG HRV2
        obtain ⟨r0, r1, r2, r3, r4, rf, rl⟩ := (unhide AD).res.cells
        dsimp only [zero] at r0 r1 r2 r3 r4
        have B := hide (unhide AD).bel
        go_wp2
        refine bodyPost_ret (v := rvV none) (by simp [results, Tryz.results65, go_sem, rvV, r0, r1, r2, r3, r4]; rfl) rfl ⟨rfl, ?_⟩
        repeat (refine Below.setCell ?_ (by simp) _)
        exact unhide B
      have HN0 := unhide HRV2
      rw [if_neg g1, if_pos g2] at HN0
      subst HN0
      go_wp2_with fail
      refine (data_ok rs n _ (by omega) hn100 g1 g2).mono ?_
      rintro e wd ⟨rfl, hbd⟩
      have AD := hide ((unhide AG).below hbd)
      clear hbd AG HRV2 g2
      obtain ⟨i0, i1, i2, i3, i4, if0, il⟩ := (unhide AD).it.cells
      have AE := hide ((unhide AD).put ((unhide AD).it.data (rs.extract 0 n)) (by omega) (by omega) (by omega))
      have hwz : (n : Int) + 2 ≤ (rs.size : Int) := by omega
      have hw0 : (0 : Int) ≤ (n : Int) + 2 := by omega
      have hwt : ((n : Int) + 2).toNat = n + 2 := by omega
      go_upto_region 16 with fail
      generalize wd.setCell ⟨X, 2, none⟩ (.string (rs.extract 0 n)) = we at AE ⊢
      clear i0 i1 i2 i3 i4 if0 il AD
      obtain ⟨i0, i1, i2, i3, i4, if0, il⟩ := (unhide AE).it.cells
      obtain ⟨r0, r1, r2, r3, r4, rf, rl⟩ := (unhide AE).res.cells
      dsimp only [zero] at i0 i1 i2 i3 i4 r0 r1 r2 r3 r4
      have B := hide (unhide AE).bel
      have hne : X ≠ w.heap.size := by omega
      have hne2 : w.heap.size ≠ X := by omega
      go_region_held3 (fun Y => Y.cell? ⟨X, 0, none⟩ = some (.string kv) ∧ Y.cell? ⟨X, 1, none⟩ = some (.int .i64 fv) ∧ Y.cell? ⟨X, 2, none⟩ = some (.string (rs.extract 0 n)) ∧ Y.cell? ⟨X, 3, none⟩ = some (.int .i64 0) ∧ Y.cell? ⟨X, 4, none⟩ = some (.int .i64 tv)) (go_keep) (fail)
      all_goals go_wp2
      all_goals
        refine bodyPost_ret (v := rvV (some (item ⟨av, kv, fv, (n : Int), tv, ⟨[], false⟩⟩ (rs.extract 0 n), rs.extract (n + 2) rs.size))) (by simp [results, Tryz.results65, go_sem, rvV, item, r0, r1, r2, r3, r4]; done) rfl ⟨rfl, ?_⟩
        refine Below.drew ?_
        repeat (refine Below.setCell ?_ (by simp) _)
        exact unhide B
end Rd
end Go.Proofs.YtghckjmpcokhcaaGreatDoor
/-
  The program's ReadValues: the items of which this is the text.
-/
namespace Go.Proofs.YtghckjmpcokhcaaGreatDoor
namespace Rd
open Go.RowKit Base Items Store GoodKey NumText Sp Count Vals Marks Own
set_option linter.unusedVariables false

def strLen : Value → Nat
  | .string s => s.size
  | _ => 0
theorem info_item : ∃ i, Tryz.prog.info? 35 = some i ∧ i.zero = some (.agg #[.string ByteArray.empty, .int .i64 0, .string ByteArray.empty, .int .i64 0, .int .i64 0]) ∧ i.size = 5 ∧ i.bytes = 56 := by
  have h : (Tryz.prog.info? 35).map (fun i => (i.zero, i.size, i.bytes)) = some (some (.agg #[.string ByteArray.empty, .int .i64 0, .string ByteArray.empty, .int .i64 0, .int .i64 0]), 5, 56) := by kernel_rfl
  obtain ⟨i, hi, hz⟩ := Option.map_eq_some_iff.1 h
  simp only [Prod.mk.injEq] at hz
  exact ⟨i, hi, hz.1, hz.2.1, hz.2.2⟩
/-- How ReadValues ends. -/
def RdEnd (s : ByteArray) (token : Bool) (w : World) (e : Ending) (w' : World) : Prop :=
  ∃ v its ok, e = .returned (.tuple #[v, .bool ok]) ∧ w'.ownsRow w.heap.size 35 5 v its.length (flat its) ∧ Below w.heap.size w w' ∧ ((ok = true ∧ rdR s token = some its) ∨ (ok = false ∧ its = [] ∧ rdR s token = none))
theorem fives (w : World) (t : TypeId) (v0 v1 v2 v3 v4 : Value) : (w.alloc (.cells #[v0, v1, v2, v3, v4] t)).cell? ⟨w.heap.size, 0, none⟩ = some v0 ∧ (w.alloc (.cells #[v0, v1, v2, v3, v4] t)).cell? ⟨w.heap.size, 1, none⟩ = some v1 ∧
    (w.alloc (.cells #[v0, v1, v2, v3, v4] t)).cell? ⟨w.heap.size, 2, none⟩ = some v2 ∧ (w.alloc (.cells #[v0, v1, v2, v3, v4] t)).cell? ⟨w.heap.size, 3, none⟩ = some v3 ∧ (w.alloc (.cells #[v0, v1, v2, v3, v4] t)).cell? ⟨w.heap.size, 4, none⟩ = some v4 := by
  refine ⟨?_, ?_, ?_, ?_, ?_⟩ <;> (rw [World.cell?_alloc_new]; rfl)

theorem pre_iff (cur : ByteArray) : Lib.hasPrefix cur.data.toList lastS.data.toList = true ↔ ∃ r, cur.data.toList = [69, 78, 68, 13, 10] ++ r := by
  unfold Lib.hasPrefix
  rw [List.isPrefixOf_iff_prefix]
  constructor
  · rintro ⟨r, hr⟩
    exact ⟨r, hr.symm⟩
  · rintro ⟨r, hr⟩
    exact ⟨r, hr.symm⟩
theorem pre_last : Lib.hasPrefix lastS.data.toList lastS.data.toList = true := (pre_iff _).2 ⟨[], rfl⟩
theorem ba_ext {a b : ByteArray} (h : a.data.toList = b.data.toList) : a = b := by
  cases a; cases b
  simp only [ByteArray.mk.injEq]
  exact Array.ext' h
/-- What is behind the end. -/
def behind (cur : ByteArray) : ByteArray := ⟨(Lib.trimPrefix cur.data.toList lastS.data.toList).toArray⟩
theorem behind_none {cur : ByteArray} (h : Lib.hasPrefix cur.data.toList lastS.data.toList = true) : behind cur = ByteArray.empty ↔ cur = lastS := by
  obtain ⟨r, hr⟩ := (pre_iff cur).1 h
  have e : (behind cur).data.toList = r := by
    unfold behind Lib.trimPrefix
    rw [if_pos h, hr]
    rfl
  constructor
  · intro h0
    rw [h0] at e
    apply ba_ext
    rw [hr, ← e]
    rfl
  · intro h0
    apply ba_ext
    rw [e]
    rw [h0] at hr
    have : ([69, 78, 68, 13, 10] : List UInt8) = [69, 78, 68, 13, 10] ++ r := hr
    have h5 : r = [] := by simpa using this
    rw [h5]; rfl
theorem val_head (x : Itm) (token : Bool) (b : ByteArray) : ∃ t, (Shelf.valueR x token ++ b).data.toList = 86 :: t := by
  refine ⟨[65, 76, 85, 69, 32] ++ ((Shelf.valueR x token ++ b).data.toList.drop 6), ?_⟩
  have e : ∃ y : ByteArray, Shelf.valueR x token ++ b = Shelf.valueS ++ y := by
    unfold Shelf.valueR Shelf.lineR
    cases token
    · exact ⟨x.key ++ (Shelf.blankS ++ (txt x.flags.toNat ++ (Shelf.blankS ++ (txt x.data.size ++ (Shelf.endS ++ (x.data ++ (Shelf.endS ++ b))))))), by simp [ByteArray.append_assoc]⟩
    · exact ⟨x.key ++ (Shelf.blankS ++ (txt x.flags.toNat ++ (Shelf.blankS ++ (txt x.data.size ++ (Shelf.blankS ++ (txt x.token.toNat ++ (Shelf.endS ++ (x.data ++ (Shelf.endS ++ b))))))))), by simp [ByteArray.append_assoc]⟩
  obtain ⟨y, hy⟩ := e
  rw [hy]
  have e2 : (Shelf.valueS ++ y).data.toList = [86, 65, 76, 85, 69, 32] ++ y.data.toList := by rw [ByteArray.data_append, Array.toList_append]; rfl
  rw [e2]
  rfl
/-- Where more than the end is there nothing can be read. -/
theorem far_more {s cur : ByteArray} {token : Bool} {its : List Itm} (h : Far s token its cur) (hp : Lib.hasPrefix cur.data.toList lastS.data.toList = true) (hne : cur ≠ lastS) : rdR s token = none := by
  refine rdR_none (fun L hL => ?_)
  obtain ⟨L', e1, e2⟩ := prefix_of h.ok hL.ok (by rw [hL.txt, ← h.txt])
  cases L' with
  | nil => exact hne (by rw [e2]; simp [told])
  | cons y L' =>
    rw [told_cons, ByteArray.append_assoc] at e2
    obtain ⟨t, ht⟩ := val_head y token (told token L' ++ lastS)
    obtain ⟨r, hr⟩ := (pre_iff cur).1 hp
    rw [e2, ht] at hr
    simp at hr
/-- How readValues ends. -/
def RsEnd (s : ByteArray) (token : Bool) (w : World) (e : Ending) (w' : World) : Prop :=
  ∃ v its rest ok, e = .returned (.tuple #[v, .string rest, .bool ok]) ∧ w'.ownsRow w.heap.size 35 5 v its.length (flat its) ∧ Below w.heap.size w w' ∧ ((ok = true ∧ ((rest = ByteArray.empty ∧ rdR s token = some its) ∨ (rest ≠ ByteArray.empty ∧ rdR s token = none))) ∨ (ok = false ∧ its = [] ∧ rest = ByteArray.empty ∧ rdR s token = none))

set_option maxRecDepth 10000 in
set_option maxHeartbeats 4000000 in
theorem reads_any (s : ByteArray) (token : Bool) (w : World) (hs : s.size ≤ 1048576) (hv : V2 w) :
    Calls Tryz.prog 33 #[.string s, .bool token, .int .i64 60] w (RsEnd s token w) := by
  have HV := hide hv
  have HRV := hide (fun cur w' (h : cur.size ≤ 1048576) hv => readValue_any cur token w' h hv)
  have HCP : Hid (∀ cur u, Calls Tryz.prog 64 #[.string cur, .string lastS] u fun e u' => e = .returned (.tuple #[.string (behind cur), .bool (Lib.hasPrefix cur.data.toList lastS.data.toList)]) ∧ u' = u) := fun cur u => Tryz.strings_CutPrefix cur lastS u
  obtain ⟨i0, hi, hz0, hz1, hz2⟩ := info_item
  have HI := hide hi
  have HZ0 := hide hz0
  have HZ1 := hide hz1
  have HZ2 := hide hz2
  have HF0 := hide (far_start s token)
  clear hi hz0 hz1 hz2 hv
  show Calls _ _ _ w (fun e w' => RsEnd s token w e w')
  unfold RsEnd
  go_enter Tryz.func33, Tryz.ntmps33
  go_wp2_with fail
  go_loopw [0, 9] (fun sv v wr => ∃ (cur : ByteArray) (its : List Itm), sv = .string cur ∧ cur.size ≤ 1048576 ∧ its.length ≤ 60 ∧ Hid (Far s token its cur) ∧ Hid (wr.ownsRow w.heap.size 35 5 v its.length (flat its)) ∧ Hid (Below w.heap.size w wr)) (fun sv _ _ => strLen sv)
  case atStart => exact ⟨s, [], rfl, hs, Nat.zero_le _, HF0, hide (World.ownsRow_nil _ _ _ _), hide (Below.refl _ _)⟩
  case round =>
    clear HF0
    obtain ⟨cur, its, rfl, hcz, hil, hfar, hown, hbel⟩ := hrel
    obtain ⟨va, vc, rfl⟩ := own_form (unhide hown)
    have HCC := hide (unhide HCP cur wr)
    cases e0 : Lib.hasPrefix cur.data.toList lastS.data.toList with
    | true =>
      have hR : Hid ((behind cur = ByteArray.empty ∧ rdR s token = some its) ∨ (behind cur ≠ ByteArray.empty ∧ rdR s token = none)) := by
        by_cases e1 : cur = lastS
        · exact .inl ⟨(behind_none e0).2 e1, far_done (by have := unhide hfar; rw [e1] at this; exact this)⟩
        · exact .inr ⟨fun h => e1 ((behind_none e0).1 h), far_more (unhide hfar) e0 e1⟩
      rw [e0] at HCC
      clear e0
      generalize behind cur = bh at HCC hR
      go_wp2_with fail
      refine (unhide HCC).mono ?_
      rintro e w' ⟨rfl, hw'⟩
      rw [hw']
      clear hw' w' HCC
      go_wp2
      refine bodyPost_ret (v := .tuple #[.slice va its.length vc, .string bh, .bool true]) (by simp [results, Tryz.results33, go_sem]) rfl ⟨_, its, bh, true, rfl, unhide hown, unhide hbel, .inl ⟨rfl, unhide hR⟩⟩
    | false =>
      have e1 : cur ≠ lastS := fun h => by rw [h, pre_last] at e0; cases e0
      rw [e0] at HCC
      have HST := hide (fun h => far_stuck (unhide hfar) e1 h)
      have HFU := hide (fun h => far_full (unhide hfar) e1 h)
      have HNE := hide (fun x r h h' => far_step (x := x) (r := r) (unhide hfar) h h')
      clear e1 e0
      generalize behind cur = bh at HCC
      have hc := unhide HRV cur wr hcz ((unhide HV).below (unhide hbel))
      have hzw := (unhide hbel).size
      cases hq : rv cur token with
      | none =>
        rw [hq] at hc
        have HC := hide hc
        have hR := hide (unhide HST hq)
        clear hc hq HST HFU HNE
        unfold rvV at HC
        go_wp2_with fail
        refine (unhide HCC).mono ?_
        rintro e w' ⟨rfl, hw'⟩
        rw [hw']
        clear hw' w' HCC
        go_wp2_with fail
        refine (unhide HC).mono ?_
        rintro e w1 ⟨rfl, hb1⟩
        have B1 := hide ((unhide hbel).trans (hb1.mono hzw))
        clear hb1 HC
        go_wp2
        refine bodyPost_ret (v := .tuple #[.slice none 0 0, .string ByteArray.empty, .bool false]) (by simp [results, Tryz.results33, go_sem]; rfl) rfl ⟨_, [], ByteArray.empty, false, rfl, World.ownsRow_nil _ _ _ _, (unhide B1).trans ((bel1 w1 _).mono (unhide B1).size), .inr ⟨rfl, rfl, rfl, unhide hR⟩⟩
      | some p =>
        obtain ⟨x, r⟩ := p
        rw [hq] at hc
        have HC := hide hc
        by_cases h60 : its.length = 60
        · have hR := hide (unhide HFU h60)
          clear hc hq HST HFU HNE
          unfold rvV at HC
          have h60' : (its.length : Int) = 60 := by omega
          go_wp2_with fail
          refine (unhide HCC).mono ?_
          rintro e w' ⟨rfl, hw'⟩
          rw [hw']
          clear hw' w' HCC
          go_wp2_with fail
          refine (unhide HC).mono ?_
          rintro e w1 ⟨rfl, hb1⟩
          have B1 := hide ((unhide hbel).trans (hb1.mono hzw))
          clear hb1 HC
          go_wp2
          refine bodyPost_ret (v := .tuple #[.slice none 0 0, .string ByteArray.empty, .bool false]) (by simp [results, Tryz.results33, go_sem]; rfl) rfl ⟨_, [], ByteArray.empty, false, rfl, World.ownsRow_nil _ _ _ _, (unhide B1).trans ((bel1 w1 _).mono (unhide B1).size), .inr ⟨rfl, rfl, rfl, unhide hR⟩⟩
        · obtain ⟨hf2, hlt⟩ := unhide HNE x r h60 hq
          have HF2 := hide hf2
          have h60' : ¬ (its.length : Int) = 60 := by omega
          clear hc hq HST HFU HNE hf2
          unfold rvV at HC
          go_wp2_with fail
          refine (unhide HCC).mono ?_
          rintro e w' ⟨rfl, hw'⟩
          rw [hw']
          clear hw' w' HCC
          go_wp2_with fail
          refine (unhide HC).mono ?_
          rintro e w1 ⟨rfl, hb1⟩
          have B1 := hide ((unhide hbel).trans (hb1.mono hzw))
          have O1 := hide (own_below (unhide hown) hb1 (Nat.le_refl _))
          have hz1 := (unhide B1).size
          clear hb1 HC
          obtain ⟨k0, k1, k2, k3, k4⟩ := fives w1 35 (.string x.key) (.int .i64 x.flags) (.string x.data) (.int .i64 x.upto) (.int .i64 x.token)
          have O2 := hide (own_below (unhide O1) (bel1 w1 (.cells #[.string x.key, .int .i64 x.flags, .string x.data, .int .i64 x.upto, .int .i64 x.token] 35)) (Nat.le_refl _))
          have hsz : (w1.alloc (.cells #[.string x.key, .int .i64 x.flags, .string x.data, .int .i64 x.upto, .int .i64 x.token] 35)).heap.size = w1.heap.size + 1 := World.size_alloc _ _
          go_upto_region 6 with fail
          generalize hw2 : w1.alloc (.cells #[.string x.key, .int .i64 x.flags, .string x.data, .int .i64 x.upto, .int .i64 x.token] 35) = w2 at k0 k1 k2 k3 k4 O2 hsz ⊢
          have B2 : Hid (Below w.heap.size w w2) := by rw [← hw2]; exact (unhide B1).trans ((bel1 w1 _).mono (unhide B1).size)
          have hz2 := (unhide B2).size
          clear hw2 hsz
          go_wp2_with (at_builtin; go_loud (refine wpList_append_own _ rfl _ _ 33 rfl w.heap.size 35 i0 _ 5 56 Tryz.underlying33 (unhide HI) (unhide HZ0) (unhide HZ1) (unhide HZ2) rfl (by decide) _ _ _ rfl ((unhide O2).alloc _) ⟨w2.heap.size, 0, none⟩ 1 1 (cellsOf x) rfl rfl ?c1 ?c2 ?c3 ?c4 ?c5 ?_))
          case c1 => exact news_cells w2 x _
          case c2 => exact news_one x
          case c3 => unfold maxLen; omega
          case c4 => omega
          case c5 => simp; omega
          intro v' w3 hown' hgrow _
          have O3 : Hid (w3.ownsRow w.heap.size 35 5 v' (its ++ [x]).length (flat (its ++ [x]))) := own_snoc hown' rfl
          have B3 := hide (((unhide B2).alloc (by omega) _).grown hgrow (by simp; omega) (own_block (unhide O2)))
          clear hown' hgrow
          go_wp2
          go_roundw
          case rel => exact ⟨r, its ++ [x], rfl, by omega, by rw [List.length_append]; simp; omega, HF2, O3, B3⟩
          case measure => simp [strLen]; omega

set_option maxRecDepth 10000 in
set_option maxHeartbeats 1000000 in
theorem impl_any (s : ByteArray) (token : Bool) (w : World) (hs : s.size ≤ 1048576) (hv : V2 w) :
    Calls Tryz.prog 10 #[.string s, .bool token] w (RdEnd s token w) := by
  have HR := hide (reads_any s token w hs hv)
  clear hv
  show Calls _ _ _ w (fun e w' => RdEnd s token w e w')
  unfold RdEnd
  go_enter Tryz.func10, Tryz.ntmps10
  go_wp2_with fail
  refine (unhide HR).mono ?_
  rintro e w1 ⟨v, its, rest, ok, rfl, ho, hb, hend⟩
  have HO := hide ho
  have HB := hide hb
  obtain ⟨va, vc, rfl⟩ := own_form ho
  clear ho hb HR
  rcases hend with ⟨rfl, hd⟩ | ⟨rfl, rfl, rfl, hd⟩
  · rcases hd with ⟨rfl, hd⟩ | ⟨hne, hd⟩
    · have HD := hide hd
      have he : (ByteArray.empty.toList == []) = true := by rw [show ByteArray.empty.toList = [] by simp [ByteArray.toList, ByteArray.toList.loop]]; rfl
      clear hd
      go_wp2
      go_ret2
      exact ⟨_, its, true, rfl, unhide HO, unhide HB, .inl ⟨rfl, unhide HD⟩⟩
    · have HD := hide hd
      have he : (rest.toList == []) = false := by
        have h2 := str_ne hne
        rw [show ByteArray.empty.toList = [] by simp [ByteArray.toList, ByteArray.toList.loop]] at h2
        exact h2
      clear hd hne
      go_wp2
      go_ret2
      exact ⟨_, [], false, rfl, World.ownsRow_nil _ _ _ _, unhide HB, .inr ⟨rfl, rfl, unhide HD⟩⟩
  · have HD := hide hd
    clear hd
    go_wp2
    go_ret2
    exact ⟨_, [], false, rfl, World.ownsRow_nil _ _ _ _, unhide HB, .inr ⟨rfl, rfl, unhide HD⟩⟩
end Rd
end Go.Proofs.YtghckjmpcokhcaaGreatDoor
