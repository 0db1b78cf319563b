/-
  The program's readValue: an item from the front of a text, and what is behind it.
-/
import Derived.Test.YtghckjmpcokhcaaDoorRdK
import Derived.Deep.RegionHeld3
import Derived.Deep.DeepCutAuto
namespace Go.Proofs.YtghckjmpcokhcaaDoor
namespace Rd
open Go.RowKit Base Items Store GoodKey NumText Sp Count Vals Marks
set_option linter.unusedVariables false

def rvV : Option (Itm × ByteArray) → Value
  | some (x, r) => .tuple #[.agg #[.string x.key, .int .i64 x.flags, .string x.data, .int .i64 x.upto, .int .i64 x.token], .string r, .bool true]
  | none => .tuple #[.agg #[.string ByteArray.empty, .int .i64 0, .string ByteArray.empty, .int .i64 0, .int .i64 0], .string ByteArray.empty, .bool false]

set_option maxRecDepth 10000 in
set_option maxHeartbeats 4000000 in
theorem readValue_any (s : ByteArray) (token : Bool) (w : World) (hs : s.size ≤ 1048576) (hv : V2 w) :
    Calls Tryd.prog 18 #[.string s, .bool token] w fun e w' => e = .returned (rvV (rv s token)) ∧ Below w.heap.size w w' := by
  have HV := hide hv
  have HCUT := hide (fun w' hv => cut_any s w' hs hv)
  obtain ⟨hz1, hz2⟩ := line_size s
  have HSPL := hide (fun w' hv => split_any (lineB s) w' (by omega) hv)
  have hsh := words_short (lineB s) (by omega)
  have HRV : Hid (rv s token = if okH (hd (wordsB (lineB s)) token) token = true then
    if (restB s).size < (hd (wordsB (lineB s)) token).size.toNat + 2 then none
    else if (restB s).extract (hd (wordsB (lineB s)) token).size.toNat ((hd (wordsB (lineB s)) token).size.toNat + 2) = Shelf.endS then
      some (item (hd (wordsB (lineB s)) token) ((restB s).extract 0 (hd (wordsB (lineB s)) token).size.toNat), (restB s).extract ((hd (wordsB (lineB s)) token).size.toNat + 2) (restB s).size)
    else none
  else none) := rfl
  generalize rv s token = RV at HRV ⊢
  generalize lineB s = ln at HCUT HSPL hsh HRV
  generalize hrs : restB s = rs at HCUT HRV hz2
  generalize wordsB ln = ws at HSPL hsh HRV
  clear hrs
  have HSH := hide hsh
  clear hsh hv
  cases token
  · have HHD : Hid (hd ws false = ⟨(nx ⟨ws, false⟩).1, (ky (nx ⟨ws, false⟩).2).1, (nm (ky (nx ⟨ws, false⟩).2).2 1000000000).1, (nm (nm (ky (nx ⟨ws, false⟩).2).2 1000000000).2 100).1, 0, (nm (nm (ky (nx ⟨ws, false⟩).2).2 1000000000).2 100).2⟩) := rfl
    have sh1 := nx_sh (s := ⟨ws, false⟩) (unhide HSH)
    have sh2 := ky_sh sh1
    have sh3 := nm_sh (m := 1000000000) sh2
    have sh4 := nm_sh (m := 100) sh3
    have hkz : (ky (nx ⟨ws, false⟩).2).1.size ≤ 1048576 := (nx_short sh1).1
    have HNX := hide (fun b W h => next_any b ⟨ws, false⟩ W h)
    have HKY := hide (fun b W h => key_any b (nx ⟨ws, false⟩).2 W h sh1)
    have HN1 := hide (fun b W h hv hbv => number_any b (ky (nx ⟨ws, false⟩).2).2 1000000000 W h sh2 (by omega) (by omega) hv hbv)
    have HN2 := hide (fun b W h hv hbv => number_any b (nm (ky (nx ⟨ws, false⟩).2).2 1000000000).2 100 W h sh3 (by omega) (by omega) hv hbv)
    clear sh1 sh2 sh3 sh4
    generalize nx ⟨ws, false⟩ = A at HHD HNX HKY HN1 HN2 hkz
    generalize ky A.2 = K at HHD HKY HN1 HN2 hkz
    generalize nm K.2 1000000000 = F at HHD HN1 HN2
    generalize nm F.2 100 = N at HHD HN2
    obtain ⟨av, ast⟩ := A
    obtain ⟨kv, kst⟩ := K
    obtain ⟨fv, fst⟩ := F
    obtain ⟨nv, nst⟩ := N
    obtain ⟨lws, lbad⟩ := nst
    dsimp only at HHD HNX HKY HN1 HN2 hkz
    generalize hHH : hd ws false = HH at HRV HHD
    have hHE := unhide HHD
    subst hHE
    have HHW := hide hHH
    clear HHD hHH
    go_enter Tryd.func18, Tryd.ntmps18
    go_wp2_with fail
    refine (unhide HCUT _ ((unhide HV).below (bel1 w _))).mono ?_
    rintro e w1 ⟨⟨f, rfl⟩, hb1⟩
    have B1 := hide ((bel1 w _).trans (hb1.mono (by simp)))
    have I1 := hide ((IB.new w).below hb1)
    have hz1 : w.heap.size < w1.heap.size := by have := hb1.size; simp at this; omega
    clear hb1
    go_wp2_with fail
    refine (unhide HSPL _ ((unhide HV).below (unhide B1))).mono ?_
    rintro e w2 ⟨rfl, hw2⟩
    rw [hw2]
    clear hw2 w2
    go_wp2_with fail
    have hA : All3 w ((w1.alloc (.cells (ws.map Value.string).toArray 9)).alloc (.cells #[.slice (some ⟨w1.heap.size, 0, none⟩) ws.length ws.length, .bool false] 51)) w.heap.size (w1.heap.size + 1) ⟨ws, false⟩ := all3_start (unhide B1) (unhide I1) ws
    generalize (w1.alloc (.cells (ws.map Value.string).toArray 9)).alloc (.cells #[.slice (some ⟨w1.heap.size, 0, none⟩) ws.length ws.length, .bool false] 51) = w3 at hA ⊢
    have A3 := hide hA
    clear hA B1 I1
    generalize hbb : w1.heap.size + 1 = b at A3 ⊢
    have hwb : w.heap.size < b := by omega
    clear hbb hz1
    refine (unhide HNX b w3 (unhide A3).rd).mono ?_
    rintro e w4 ⟨rfl, hr4, hg4⟩
    have A4 := hide ((unhide A3).gb hg4 hr4 hwb)
    clear hr4 hg4 A3
    go_wp2_with fail
    have A5 := hide ((unhide A4).item)
    have hXb : b < w4.heap.size := (unhide A4).rd.lt
    generalize w4.alloc (.cells #[.string { data := #[] }, .int .i64 0, .string { data := #[] }, .int .i64 0, .int .i64 0] 32) = w5 at A5 ⊢
    generalize w4.heap.size = X at A5 hXb ⊢
    clear A4
    refine (unhide HKY b w5 (unhide A5).rd).mono ?_
    rintro e w6 ⟨rfl, hr6, hg6⟩
    have A6 := hide ((unhide A5).gb hg6 hr6 (by omega) (by omega) (by omega))
    clear hr6 hg6 A5
    obtain ⟨i0, i1, i2, i3, i4, if0, il⟩ := (unhide A6).it.cells
    have A7 := hide ((unhide A6).put ((unhide A6).it.key kv) (by omega) (by omega) (by omega))
    go_wp2_with fail
    generalize w6.setCell ⟨X, 0, none⟩ (.string kv) = w7 at A7 ⊢
    clear A6 i0 i1 i2 i3 i4 if0 il
    refine (unhide HN1 b w7 (unhide A7).rd ((unhide HV).below (unhide A7).bel).vars (hide (fun W' hg => ((unhide HV).below (((unhide A7).bel).grown hg (unhide A7).bel.size (fun k e => by simp at e; omega))).vars))).mono ?_
    rintro e w8 ⟨rfl, hr8, hg8⟩
    have A8 := hide ((unhide A7).gb hg8 hr8 (by omega) (by omega) (by omega))
    clear hr8 hg8 A7
    obtain ⟨i0, i1, i2, i3, i4, if0, il⟩ := (unhide A8).it.cells
    have A9 := hide ((unhide A8).put ((unhide A8).it.flags fv) (by omega) (by omega) (by omega))
    go_wp2_with fail
    generalize w8.setCell ⟨X, 1, none⟩ (.int .i64 fv) = w9 at A9 ⊢
    clear A8 i0 i1 i2 i3 i4 if0 il
    refine (unhide HN2 b w9 (unhide A9).rd ((unhide HV).below (unhide A9).bel).vars (hide (fun W' hg => ((unhide HV).below (((unhide A9).bel).grown hg (unhide A9).bel.size (fun k e => by simp at e; omega))).vars))).mono ?_
    rintro e w10 ⟨rfl, hr10, hg10⟩
    have A10 := hide ((unhide A9).gb hg10 hr10 (by omega) (by omega) (by omega))
    clear hr10 hg10 A9
    go_upto_region 10 with fail
    obtain ⟨ra, rcap, rh1, rh2, rh3⟩ := (unhide A10).rd
    obtain ⟨c0, c1, cf, cl⟩ := rb_cells rh1
    clear rh1 rh2 rh3
    obtain ⟨i0, i1, i2, i3, i4, if0, il⟩ := (unhide A10).it.cells
    dsimp only [zero] at c0 c1 i0 i1 i2 i3 i4
    have hRz : w.heap.size < w10.heap.size := (unhide A10).res.cells.2.2.2.2.2.2
    have hGV := fun W' => goodValue_any ⟨kv, fv, ByteArray.empty, 0, 0⟩ false W' ⟨by unfold maxLen; exact Nat.le_trans hkz (by decide), by simp [maxLen]⟩
    by_cases e1 : av = wordS
    case neg =>
      have e1' : (av.toList == [86, 65, 76, 85, 69]) = false := word_ne e1
      have HN0 := unhide HRV
      rw [if_neg (ok_no (.inl e1))] at HN0
      subst HN0
      clear HRV hGV HV HCUT HSPL HSH HNX HKY HN1 HN2 HHW
      obtain ⟨r0, r1, r2, r3, r4, rf, rl⟩ := (unhide A10).res.cells
      dsimp only [zero] at r0 r1 r2 r3 r4
      have B := hide (unhide A10).bel
      go_wp2
      refine bodyPost_ret (v := rvV none) (by simp [results, Tryd.results18, go_sem, rvV, r0, r1, r2, r3, r4]; rfl) rfl ⟨rfl, ?_⟩
      repeat (refine Below.setCell ?_ (by simp) _)
      exact unhide B
    have e1' : (av.toList == [86, 65, 76, 85, 69]) = true := word_eq e1
    have E1 := hide e1
    clear e1
    cases lbad
    case true =>
      have HN0 := unhide HRV
      rw [if_neg (ok_no (.inr (.inl rfl)))] at HN0
      subst HN0
      clear HRV hGV HV HCUT HSPL HSH HNX HKY HN1 HN2 HHW
      obtain ⟨r0, r1, r2, r3, r4, rf, rl⟩ := (unhide A10).res.cells
      dsimp only [zero] at r0 r1 r2 r3 r4
      have B := hide (unhide A10).bel
      go_wp2
      refine bodyPost_ret (v := rvV none) (by simp [results, Tryd.results18, go_sem, rvV, r0, r1, r2, r3, r4]; rfl) rfl ⟨rfl, ?_⟩
      repeat (refine Below.setCell ?_ (by simp) _)
      exact unhide B
    by_cases e2 : lws = []
    case neg =>
      have e2' : 0 < lws.length := List.length_pos_iff.2 e2
      have HN0 := unhide HRV
      rw [if_neg (ok_no (.inr (.inr (.inl e2))))] at HN0
      subst HN0
      clear HRV hGV HV HCUT HSPL HSH HNX HKY HN1 HN2 HHW
      obtain ⟨r0, r1, r2, r3, r4, rf, rl⟩ := (unhide A10).res.cells
      dsimp only [zero] at r0 r1 r2 r3 r4
      have B := hide (unhide A10).bel
      go_wp2
      refine bodyPost_ret (v := rvV none) (by simp [results, Tryd.results18, go_sem, rvV, r0, r1, r2, r3, r4]; rfl) rfl ⟨rfl, ?_⟩
      repeat (refine Below.setCell ?_ (by simp) _)
      exact unhide B
    subst e2
    dsimp only [List.length_nil] at c0
    cases hq : goodV ⟨kv, fv, ByteArray.empty, 0, 0⟩ false
    · rw [hq] at hGV
      have HGV := hide hGV
      have HN0 := unhide HRV
      rw [if_neg (ok_no (.inr (.inr (.inr hq))))] at HN0
      subst HN0
      clear HRV hGV hq HV HCUT HSPL HSH HNX HKY HN1 HN2 HHW
      go_wp2_with fail
      refine (unhide HGV _).mono ?_
      rintro e wg ⟨rfl, hbg⟩
      have AG := hide ((unhide A10).below hbg)
      clear hbg HGV c0 c1 cf cl i0 i1 i2 i3 i4 if0 il
      obtain ⟨r0, r1, r2, r3, r4, rf, rl⟩ := (unhide AG).res.cells
      dsimp only [zero] at r0 r1 r2 r3 r4
      have B := hide (unhide AG).bel
      go_wp2
      refine bodyPost_ret (v := rvV none) (by simp [results, Tryd.results18, go_sem, rvV, r0, r1, r2, r3, r4]; rfl) rfl ⟨rfl, ?_⟩
      repeat (refine Below.setCell ?_ (by simp) _)
      exact unhide B
    · rw [hq] at hGV
      have HGV := hide hGV
      have hok := ok_yes (w := av) (k := kv) (f := fv) (n := nv) (t := 0) (token := false) (unhide E1) hq
      have HRV1 := unhide HRV
      rw [if_pos hok] at HRV1
      try dsimp only at HRV1
      obtain ⟨n, hn, hn100, -⟩ := hd_sound (ws := ws) (token := false) (by rw [unhide HHW]; exact hok)
      rw [unhide HHW] at hn
      try dsimp only at hn
      subst hn
      rw [Int.toNat_natCast] at HRV1
      have HRV2 := hide HRV1
      clear HRV HRV1 hGV hq hok HV HCUT HSPL HSH HNX HKY HN1 HN2 HHW
      go_wp2_with fail
      refine (unhide HGV _).mono ?_
      rintro e wg ⟨rfl, hbg⟩
      have AG := hide ((unhide A10).below hbg)
      clear hbg HGV c0 c1 cf cl i0 i1 i2 i3 i4 if0 il A10 hRz
      by_cases g1 : rs.size < n + 2
      · have HN0 := unhide HRV2
        rw [if_pos g1] at HN0
        subst HN0
        go_wp2_with fail
        refine (data_short rs n _ (by omega) hn100 g1).mono ?_
        rintro e wd ⟨rfl, hbd⟩
        have AD := hide ((unhide AG).below hbd)
        clear hbd AG HRV2
        obtain ⟨r0, r1, r2, r3, r4, rf, rl⟩ := (unhide AD).res.cells
        dsimp only [zero] at r0 r1 r2 r3 r4
        have B := hide (unhide AD).bel
        go_wp2
        refine bodyPost_ret (v := rvV none) (by simp [results, Tryd.results18, go_sem, rvV, r0, r1, r2, r3, r4]; rfl) rfl ⟨rfl, ?_⟩
        repeat (refine Below.setCell ?_ (by simp) _)
        exact unhide B
      by_cases g2 : rs.extract n (n + 2) = Shelf.endS
      case neg =>
        have HN0 := unhide HRV2
        rw [if_neg g1, if_neg g2] at HN0
        subst HN0
        go_wp2_with fail
        refine (data_bad rs n _ (by omega) hn100 g1 g2).mono ?_
        rintro e wd ⟨rfl, hbd⟩
        have AD := hide ((unhide AG).below hbd)
        clear hbd AG HRV2
        obtain ⟨r0, r1, r2, r3, r4, rf, rl⟩ := (unhide AD).res.cells
        dsimp only [zero] at r0 r1 r2 r3 r4
        have B := hide (unhide AD).bel
        go_wp2
        refine bodyPost_ret (v := rvV none) (by simp [results, Tryd.results18, go_sem, rvV, r0, r1, r2, r3, r4]; rfl) rfl ⟨rfl, ?_⟩
        repeat (refine Below.setCell ?_ (by simp) _)
        exact unhide B
      have HN0 := unhide HRV2
      rw [if_neg g1, if_pos g2] at HN0
      subst HN0
      go_wp2_with fail
      refine (data_ok rs n _ (by omega) hn100 g1 g2).mono ?_
      rintro e wd ⟨rfl, hbd⟩
      have AD := hide ((unhide AG).below hbd)
      clear hbd AG HRV2 g2
      obtain ⟨i0, i1, i2, i3, i4, if0, il⟩ := (unhide AD).it.cells
      have AE := hide ((unhide AD).put ((unhide AD).it.data (rs.extract 0 n)) (by omega) (by omega) (by omega))
      have hwz : (n : Int) + 2 ≤ (rs.size : Int) := by omega
      have hw0 : (0 : Int) ≤ (n : Int) + 2 := by omega
      have hwt : ((n : Int) + 2).toNat = n + 2 := by omega
      go_upto_region 16 with fail
      generalize wd.setCell ⟨X, 2, none⟩ (.string (rs.extract 0 n)) = we at AE ⊢
      clear i0 i1 i2 i3 i4 if0 il AD
      obtain ⟨i0, i1, i2, i3, i4, if0, il⟩ := (unhide AE).it.cells
      obtain ⟨r0, r1, r2, r3, r4, rf, rl⟩ := (unhide AE).res.cells
      dsimp only [zero] at i0 i1 i2 i3 i4 r0 r1 r2 r3 r4
      have B := hide (unhide AE).bel
      have hne : X ≠ w.heap.size := by omega
      have hne2 : w.heap.size ≠ X := by omega
      go_region_held3 (fun Y => Y.cell? ⟨X, 0, none⟩ = some (.string kv) ∧ Y.cell? ⟨X, 1, none⟩ = some (.int .i64 fv) ∧ Y.cell? ⟨X, 2, none⟩ = some (.string (rs.extract 0 n)) ∧ Y.cell? ⟨X, 3, none⟩ = some (.int .i64 0) ∧ Y.cell? ⟨X, 4, none⟩ = some (.int .i64 0)) (go_keep) (fail)
      all_goals go_wp2
      all_goals
        refine bodyPost_ret (v := rvV (some (item ⟨av, kv, fv, (n : Int), 0, ⟨[], false⟩⟩ (rs.extract 0 n), rs.extract (n + 2) rs.size))) (by simp [results, Tryd.results18, go_sem, rvV, item, r0, r1, r2, r3, r4]; done) rfl ⟨rfl, ?_⟩
        refine Below.drew ?_
        repeat (refine Below.setCell ?_ (by simp) _)
        exact unhide B
  · have HHD : Hid (hd ws true = ⟨(nx ⟨ws, false⟩).1, (ky (nx ⟨ws, false⟩).2).1, (nm (ky (nx ⟨ws, false⟩).2).2 1000000000).1, (nm (nm (ky (nx ⟨ws, false⟩).2).2 1000000000).2 100).1, (nm (nm (nm (ky (nx ⟨ws, false⟩).2).2 1000000000).2 100).2 1000000000).1, (nm (nm (nm (ky (nx ⟨ws, false⟩).2).2 1000000000).2 100).2 1000000000).2⟩) := rfl
    have sh1 := nx_sh (s := ⟨ws, false⟩) (unhide HSH)
    have sh2 := ky_sh sh1
    have sh3 := nm_sh (m := 1000000000) sh2
    have sh4 := nm_sh (m := 100) sh3
    have hkz : (ky (nx ⟨ws, false⟩).2).1.size ≤ 1048576 := (nx_short sh1).1
    have HNX := hide (fun b W h => next_any b ⟨ws, false⟩ W h)
    have HKY := hide (fun b W h => key_any b (nx ⟨ws, false⟩).2 W h sh1)
    have HN1 := hide (fun b W h hv hbv => number_any b (ky (nx ⟨ws, false⟩).2).2 1000000000 W h sh2 (by omega) (by omega) hv hbv)
    have HN2 := hide (fun b W h hv hbv => number_any b (nm (ky (nx ⟨ws, false⟩).2).2 1000000000).2 100 W h sh3 (by omega) (by omega) hv hbv)
    have HN3 := hide (fun b W h hv hbv => number_any b (nm (nm (ky (nx ⟨ws, false⟩).2).2 1000000000).2 100).2 1000000000 W h sh4 (by omega) (by omega) hv hbv)
    clear sh1 sh2 sh3 sh4
    generalize nx ⟨ws, false⟩ = A at HHD HNX HKY HN1 HN2 hkz HN3
    generalize ky A.2 = K at HHD HKY HN1 HN2 hkz HN3
    generalize nm K.2 1000000000 = F at HHD HN1 HN2 HN3
    generalize nm F.2 100 = N at HHD HN2 HN3
    generalize nm N.2 1000000000 = T at HHD HN3
    obtain ⟨tv, tst⟩ := T
    obtain ⟨av, ast⟩ := A
    obtain ⟨kv, kst⟩ := K
    obtain ⟨fv, fst⟩ := F
    obtain ⟨nv, nst⟩ := N
    obtain ⟨lws, lbad⟩ := tst
    dsimp only at HHD HNX HKY HN1 HN2 hkz HN3
    generalize hHH : hd ws true = HH at HRV HHD
    have hHE := unhide HHD
    subst hHE
    have HHW := hide hHH
    clear HHD hHH
    go_enter Tryd.func18, Tryd.ntmps18
    go_wp2_with fail
    refine (unhide HCUT _ ((unhide HV).below (bel1 w _))).mono ?_
    rintro e w1 ⟨⟨f, rfl⟩, hb1⟩
    have B1 := hide ((bel1 w _).trans (hb1.mono (by simp)))
    have I1 := hide ((IB.new w).below hb1)
    have hz1 : w.heap.size < w1.heap.size := by have := hb1.size; simp at this; omega
    clear hb1
    go_wp2_with fail
    refine (unhide HSPL _ ((unhide HV).below (unhide B1))).mono ?_
    rintro e w2 ⟨rfl, hw2⟩
    rw [hw2]
    clear hw2 w2
    go_wp2_with fail
    have hA : All3 w ((w1.alloc (.cells (ws.map Value.string).toArray 9)).alloc (.cells #[.slice (some ⟨w1.heap.size, 0, none⟩) ws.length ws.length, .bool false] 51)) w.heap.size (w1.heap.size + 1) ⟨ws, false⟩ := all3_start (unhide B1) (unhide I1) ws
    generalize (w1.alloc (.cells (ws.map Value.string).toArray 9)).alloc (.cells #[.slice (some ⟨w1.heap.size, 0, none⟩) ws.length ws.length, .bool false] 51) = w3 at hA ⊢
    have A3 := hide hA
    clear hA B1 I1
    generalize hbb : w1.heap.size + 1 = b at A3 ⊢
    have hwb : w.heap.size < b := by omega
    clear hbb hz1
    refine (unhide HNX b w3 (unhide A3).rd).mono ?_
    rintro e w4 ⟨rfl, hr4, hg4⟩
    have A4 := hide ((unhide A3).gb hg4 hr4 hwb)
    clear hr4 hg4 A3
    go_wp2_with fail
    have A5 := hide ((unhide A4).item)
    have hXb : b < w4.heap.size := (unhide A4).rd.lt
    generalize w4.alloc (.cells #[.string { data := #[] }, .int .i64 0, .string { data := #[] }, .int .i64 0, .int .i64 0] 32) = w5 at A5 ⊢
    generalize w4.heap.size = X at A5 hXb ⊢
    clear A4
    refine (unhide HKY b w5 (unhide A5).rd).mono ?_
    rintro e w6 ⟨rfl, hr6, hg6⟩
    have A6 := hide ((unhide A5).gb hg6 hr6 (by omega) (by omega) (by omega))
    clear hr6 hg6 A5
    obtain ⟨i0, i1, i2, i3, i4, if0, il⟩ := (unhide A6).it.cells
    have A7 := hide ((unhide A6).put ((unhide A6).it.key kv) (by omega) (by omega) (by omega))
    go_wp2_with fail
    generalize w6.setCell ⟨X, 0, none⟩ (.string kv) = w7 at A7 ⊢
    clear A6 i0 i1 i2 i3 i4 if0 il
    refine (unhide HN1 b w7 (unhide A7).rd ((unhide HV).below (unhide A7).bel).vars (hide (fun W' hg => ((unhide HV).below (((unhide A7).bel).grown hg (unhide A7).bel.size (fun k e => by simp at e; omega))).vars))).mono ?_
    rintro e w8 ⟨rfl, hr8, hg8⟩
    have A8 := hide ((unhide A7).gb hg8 hr8 (by omega) (by omega) (by omega))
    clear hr8 hg8 A7
    obtain ⟨i0, i1, i2, i3, i4, if0, il⟩ := (unhide A8).it.cells
    have A9 := hide ((unhide A8).put ((unhide A8).it.flags fv) (by omega) (by omega) (by omega))
    go_wp2_with fail
    generalize w8.setCell ⟨X, 1, none⟩ (.int .i64 fv) = w9 at A9 ⊢
    clear A8 i0 i1 i2 i3 i4 if0 il
    refine (unhide HN2 b w9 (unhide A9).rd ((unhide HV).below (unhide A9).bel).vars (hide (fun W' hg => ((unhide HV).below (((unhide A9).bel).grown hg (unhide A9).bel.size (fun k e => by simp at e; omega))).vars))).mono ?_
    rintro e w10 ⟨rfl, hr10, hg10⟩
    have A10 := hide ((unhide A9).gb hg10 hr10 (by omega) (by omega) (by omega))
    clear hr10 hg10 A9
    go_wp2_with fail
    refine (unhide HN3 b w10 (unhide A10).rd ((unhide HV).below (unhide A10).bel).vars (hide (fun W' hg => ((unhide HV).below (((unhide A10).bel).grown hg (unhide A10).bel.size (fun k e => by simp at e; omega))).vars))).mono ?_
    rintro e w11 ⟨rfl, hr11, hg11⟩
    have A11 := hide ((unhide A10).gb hg11 hr11 (by omega) (by omega) (by omega))
    clear hr11 hg11 A10
    obtain ⟨i0, i1, i2, i3, i4, if0, il⟩ := (unhide A11).it.cells
    have A12 := hide ((unhide A11).put ((unhide A11).it.token tv) (by omega) (by omega) (by omega))
    go_upto_region 10 with fail
    generalize w11.setCell ⟨X, 4, none⟩ (.int .i64 tv) = w12 at A12 ⊢
    clear A11 i0 i1 i2 i3 i4 if0 il
    obtain ⟨ra, rcap, rh1, rh2, rh3⟩ := (unhide A12).rd
    obtain ⟨c0, c1, cf, cl⟩ := rb_cells rh1
    clear rh1 rh2 rh3
    obtain ⟨i0, i1, i2, i3, i4, if0, il⟩ := (unhide A12).it.cells
    dsimp only [zero] at c0 c1 i0 i1 i2 i3 i4
    have hRz : w.heap.size < w12.heap.size := (unhide A12).res.cells.2.2.2.2.2.2
    have hGV := fun W' => goodValue_any ⟨kv, fv, ByteArray.empty, 0, tv⟩ true W' ⟨by unfold maxLen; exact Nat.le_trans hkz (by decide), by simp [maxLen]⟩
    by_cases e1 : av = wordS
    case neg =>
      have e1' : (av.toList == [86, 65, 76, 85, 69]) = false := word_ne e1
      have HN0 := unhide HRV
      rw [if_neg (ok_no (.inl e1))] at HN0
      subst HN0
      clear HRV hGV HV HCUT HSPL HSH HNX HKY HN1 HN2 HN3 HHW
      obtain ⟨r0, r1, r2, r3, r4, rf, rl⟩ := (unhide A12).res.cells
      dsimp only [zero] at r0 r1 r2 r3 r4
      have B := hide (unhide A12).bel
      go_wp2
      refine bodyPost_ret (v := rvV none) (by simp [results, Tryd.results18, go_sem, rvV, r0, r1, r2, r3, r4]; rfl) rfl ⟨rfl, ?_⟩
      repeat (refine Below.setCell ?_ (by simp) _)
      exact unhide B
    have e1' : (av.toList == [86, 65, 76, 85, 69]) = true := word_eq e1
    have E1 := hide e1
    clear e1
    cases lbad
    case true =>
      have HN0 := unhide HRV
      rw [if_neg (ok_no (.inr (.inl rfl)))] at HN0
      subst HN0
      clear HRV hGV HV HCUT HSPL HSH HNX HKY HN1 HN2 HN3 HHW
      obtain ⟨r0, r1, r2, r3, r4, rf, rl⟩ := (unhide A12).res.cells
      dsimp only [zero] at r0 r1 r2 r3 r4
      have B := hide (unhide A12).bel
      go_wp2
      refine bodyPost_ret (v := rvV none) (by simp [results, Tryd.results18, go_sem, rvV, r0, r1, r2, r3, r4]; rfl) rfl ⟨rfl, ?_⟩
      repeat (refine Below.setCell ?_ (by simp) _)
      exact unhide B
    by_cases e2 : lws = []
    case neg =>
      have e2' : 0 < lws.length := List.length_pos_iff.2 e2
      have HN0 := unhide HRV
      rw [if_neg (ok_no (.inr (.inr (.inl e2))))] at HN0
      subst HN0
      clear HRV hGV HV HCUT HSPL HSH HNX HKY HN1 HN2 HN3 HHW
      obtain ⟨r0, r1, r2, r3, r4, rf, rl⟩ := (unhide A12).res.cells
      dsimp only [zero] at r0 r1 r2 r3 r4
      have B := hide (unhide A12).bel
      go_wp2
      refine bodyPost_ret (v := rvV none) (by simp [results, Tryd.results18, go_sem, rvV, r0, r1, r2, r3, r4]; rfl) rfl ⟨rfl, ?_⟩
      repeat (refine Below.setCell ?_ (by simp) _)
      exact unhide B
    subst e2
    dsimp only [List.length_nil] at c0
    cases hq : goodV ⟨kv, fv, ByteArray.empty, 0, tv⟩ true
    · rw [hq] at hGV
      have HGV := hide hGV
      have HN0 := unhide HRV
      rw [if_neg (ok_no (.inr (.inr (.inr hq))))] at HN0
      subst HN0
      clear HRV hGV hq HV HCUT HSPL HSH HNX HKY HN1 HN2 HN3 HHW
      go_wp2_with fail
      refine (unhide HGV _).mono ?_
      rintro e wg ⟨rfl, hbg⟩
      have AG := hide ((unhide A12).below hbg)
      clear hbg HGV c0 c1 cf cl i0 i1 i2 i3 i4 if0 il
      obtain ⟨r0, r1, r2, r3, r4, rf, rl⟩ := (unhide AG).res.cells
      dsimp only [zero] at r0 r1 r2 r3 r4
      have B := hide (unhide AG).bel
      go_wp2
      refine bodyPost_ret (v := rvV none) (by simp [results, Tryd.results18, go_sem, rvV, r0, r1, r2, r3, r4]; rfl) rfl ⟨rfl, ?_⟩
      repeat (refine Below.setCell ?_ (by simp) _)
      exact unhide B
    · rw [hq] at hGV
      have HGV := hide hGV
      have hok := ok_yes (w := av) (k := kv) (f := fv) (n := nv) (t := tv) (token := true) (unhide E1) hq
      have HRV1 := unhide HRV
      rw [if_pos hok] at HRV1
      try dsimp only at HRV1
      obtain ⟨n, hn, hn100, -⟩ := hd_sound (ws := ws) (token := true) (by rw [unhide HHW]; exact hok)
      rw [unhide HHW] at hn
      try dsimp only at hn
      subst hn
      rw [Int.toNat_natCast] at HRV1
      have HRV2 := hide HRV1
      clear HRV HRV1 hGV hq hok HV HCUT HSPL HSH HNX HKY HN1 HN2 HN3 HHW
      go_wp2_with fail
      refine (unhide HGV _).mono ?_
      rintro e wg ⟨rfl, hbg⟩
      have AG := hide ((unhide A12).below hbg)
      clear hbg HGV c0 c1 cf cl i0 i1 i2 i3 i4 if0 il A12 hRz
      by_cases g1 : rs.size < n + 2
      · have HN0 := unhide HRV2
        rw [if_pos g1] at HN0
        subst HN0
        go_wp2_with fail
        refine (data_short rs n _ (by omega) hn100 g1).mono ?_
        rintro e wd ⟨rfl, hbd⟩
        have AD := hide ((unhide AG).below hbd)
        clear hbd AG HRV2
        obtain ⟨r0, r1, r2, r3, r4, rf, rl⟩ := (unhide AD).res.cells
        dsimp only [zero] at r0 r1 r2 r3 r4
        have B := hide (unhide AD).bel
        go_wp2
        refine bodyPost_ret (v := rvV none) (by simp [results, Tryd.results18, go_sem, rvV, r0, r1, r2, r3, r4]; rfl) rfl ⟨rfl, ?_⟩
        repeat (refine Below.setCell ?_ (by simp) _)
        exact unhide B
      by_cases g2 : rs.extract n (n + 2) = Shelf.endS
      case neg =>
        have HN0 := unhide HRV2
        rw [if_neg g1, if_neg g2] at HN0
        subst HN0
        go_wp2_with fail
        refine (data_bad rs n _ (by omega) hn100 g1 g2).mono ?_
        rintro e wd ⟨rfl, hbd⟩
        have AD := hide ((unhide AG).below hbd)
        clear hbd AG HRV2
        obtain ⟨r0, r1, r2, r3, r4, rf, rl⟩ := (unhide AD).res.cells
        dsimp only [zero] at r0 r1 r2 r3 r4
        have B := hide (unhide AD).bel
        go_wp2
        refine bodyPost_ret (v := rvV none) (by simp [results, Tryd.results18, go_sem, rvV, r0, r1, r2, r3, r4]; rfl) rfl ⟨rfl, ?_⟩
        repeat (refine Below.setCell ?_ (by simp) _)
        exact unhide B
      have HN0 := unhide HRV2
      rw [if_neg g1, if_pos g2] at HN0
      subst HN0
      go_wp2_with fail
      refine (data_ok rs n _ (by omega) hn100 g1 g2).mono ?_
      rintro e wd ⟨rfl, hbd⟩
      have AD := hide ((unhide AG).below hbd)
      clear hbd AG HRV2 g2
      obtain ⟨i0, i1, i2, i3, i4, if0, il⟩ := (unhide AD).it.cells
      have AE := hide ((unhide AD).put ((unhide AD).it.data (rs.extract 0 n)) (by omega) (by omega) (by omega))
      have hwz : (n : Int) + 2 ≤ (rs.size : Int) := by omega
      have hw0 : (0 : Int) ≤ (n : Int) + 2 := by omega
      have hwt : ((n : Int) + 2).toNat = n + 2 := by omega
      go_upto_region 16 with fail
      generalize wd.setCell ⟨X, 2, none⟩ (.string (rs.extract 0 n)) = we at AE ⊢
      clear i0 i1 i2 i3 i4 if0 il AD
      obtain ⟨i0, i1, i2, i3, i4, if0, il⟩ := (unhide AE).it.cells
      obtain ⟨r0, r1, r2, r3, r4, rf, rl⟩ := (unhide AE).res.cells
      dsimp only [zero] at i0 i1 i2 i3 i4 r0 r1 r2 r3 r4
      have B := hide (unhide AE).bel
      have hne : X ≠ w.heap.size := by omega
      have hne2 : w.heap.size ≠ X := by omega
      go_region_held3 (fun Y => Y.cell? ⟨X, 0, none⟩ = some (.string kv) ∧ Y.cell? ⟨X, 1, none⟩ = some (.int .i64 fv) ∧ Y.cell? ⟨X, 2, none⟩ = some (.string (rs.extract 0 n)) ∧ Y.cell? ⟨X, 3, none⟩ = some (.int .i64 0) ∧ Y.cell? ⟨X, 4, none⟩ = some (.int .i64 tv)) (go_keep) (fail)
      all_goals go_wp2
      all_goals
        refine bodyPost_ret (v := rvV (some (item ⟨av, kv, fv, (n : Int), tv, ⟨[], false⟩⟩ (rs.extract 0 n), rs.extract (n + 2) rs.size))) (by simp [results, Tryd.results18, go_sem, rvV, item, r0, r1, r2, r3, r4]; done) rfl ⟨rfl, ?_⟩
        refine Below.drew ?_
        repeat (refine Below.setCell ?_ (by simp) _)
        exact unhide B
end Rd
end Go.Proofs.YtghckjmpcokhcaaDoor
