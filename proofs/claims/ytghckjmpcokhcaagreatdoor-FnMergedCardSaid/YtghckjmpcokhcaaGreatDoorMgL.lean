/-
  FnMerged returns true for every slice of bytes, where the library's variables hold what the program's text lays in them: for the nodes and keys that are drawn SplitKeys answers as the model's, and what is told by each node and put together is what one would tell.
-/
import Derived.Test.YtghckjmpcokhcaaGreatDoorMgZ
import Derived.Test.YtghckjmpcokhcaaGreatDoorCurY
import Derived.Deep.RegionHeld3
import Derived.Deep.DeepCutAuto
import Derived.Lib.QuietBelow
namespace Go.Proofs.YtghckjmpcokhcaaGreatDoor
namespace MgL
open Go.RowKit Base Items Split Marks KeysS Ring Parts Merge Rd Vals
set_option linter.unusedVariables false

theorem box2 (w : World) (t : TypeId) (v0 v1 : Value) : (w.alloc (.cells #[v0, v1] t)).cell? ⟨w.heap.size, 0, none⟩ = some v0 ∧ (w.alloc (.cells #[v0, v1] t)).cell? ⟨w.heap.size, 1, none⟩ = some v1 := by
  refine ⟨?_, ?_⟩ <;> (rw [World.cell?_alloc_new]; rfl)
theorem gkb_size {k : ByteArray} (h : GoodCmd.gkb k = true) : k.size ≤ 30 := by
  have hg : GoodKey.gk k.data.toList = true := h
  simp only [GoodKey.gk, GoodKey.inB, Bool.and_eq_true, decide_eq_true_eq] at hg
  have el : k.data.toList.length = k.size := by simp
  omega
theorem getD_mem {L : List ByteArray} {q : Nat} (h : q < L.length) : L.getD q ByteArray.empty ∈ L := by
  rw [List.getD_eq_getElem?_getD, List.getElem?_eq_getElem h]
  exact List.getElem_mem _
theorem part_row {w : World} {B : Nat} {a : Option Addr} {c n : Nat} {p : Nat → Pt} (h : Out w B (.slice a n c) n p) (h0 : 0 < n) : ∃ g, a = some ⟨g, 0, none⟩ ∧ g < w.heap.size ∧ RowAt w g 31 (n * 2) (pcell p) := by
  obtain ⟨g, cap, hv, _, _, hl⟩ := OwnR.own_some h.1 h0
  simp only [Value.slice.injEq] at hv
  obtain ⟨rfl, _, rfl⟩ := hv
  exact ⟨g, rfl, hl, (own_rowAt h.1).2.2⟩

set_option maxRecDepth 100000 in
set_option maxHeartbeats 8000000 in
theorem walk (a0 : Option Addr) (cap0 n0 : Nat) (z : Nat → Int) (w : World) (hc : Cur.BAt w a0 n0 z) (hl0 : n0 ≤ maxLen) (hv : V2 w) :
    Calls Tryz.prog 3 #[.slice a0 n0 cap0] w fun e w' => e = .returned (.bool true) ∧ Below w.heap.size w w' := by
  by_cases hbig : 1048576 < (n0 : Int)
  · clear hc
    go_enter Tryz.func3, Tryz.ntmps3
    go_wp2
    go_ret
    exact ⟨rfl, Below.refl _ _⟩
  have hmix : Tryz.prog.follows .mixedOrders = true := by kernel_rfl
  have HMIX := hide hmix
  have HD := hide (Cur.drawSplit_any a0 n0 cap0 z w hc (by omega))
  have HV := hide hv
  clear hc hv hmix
  go_enter Tryz.func3, Tryz.ntmps3
  go_wp2_with fail
  refine (unhide HD).mono ?_
  rintro e w2 ⟨l, b, cb, ts, d, cd, rfl, ⟨hl6, hlc⟩, hls, hlat, ht61, hts, hsat, hb2⟩
  have B2 := hide hb2
  have V2' := hide ((unhide HV).below hb2)
  clear HD hb2
  have hfit : ∀ x ∈ l, Nodes.Fits x := fun x hx => by have := hls x hx; unfold Nodes.Fits maxLen; omega
  have hks : ∀ s ∈ ts, s.size ≤ maxLen := fun s hs => by have := hts s hs; unfold maxLen; omega
  have hlm : l.length ≤ maxLen := by unfold maxLen; omega
  have htm : ts.length ≤ maxLen := by unfold maxLen; omega
  have HIS := hide (split_opt b cb l d cd ts w2 hlat hlm hfit hsat htm hks (unhide V2').vars.tab)
  have HSS := hide (fun w1 (hb1 : Below w2.heap.size w2 w1) => ssplit_opt b cb l d cd ts w1 (hlat.below hb1 (Nat.le_refl _)) hlm hfit (hsat.below hb1 (Nat.le_refl _)) htm hks)
  have HLAT := hide hlat
  have HSAT := hide hsat
  have HFIT := hide hfit
  have HKS := hide hks
  clear hlat hsat hfit hks hls hts
  unfold Split.Ends at HIS HSS
  have HOUT : Hid ((okB l ts = false ∧ outL l ts = []) ∨ (NodesM.gnB l = true ∧ kB ts = true ∧ okB l ts = true ∧ outL l ts = parts (owners l ts) ts ts.length)) := by
    cases g1 : NodesM.gnB l
    · exact .inl (out_no (.inl g1))
    · cases g2 : kB ts
      · exact .inl (out_no (.inr g2))
      · exact .inr ⟨rfl, rfl, (out_yes g1 g2).1, (out_yes g1 g2).2⟩
  generalize okB l ts = gd at HIS HSS HOUT
  generalize outL l ts = R at HIS HSS HOUT
  have hoo : (gd != gd) = false := by cases gd <;> rfl
  go_wp2_with fail
  refine (unhide HIS).mono ?_
  rintro e w3 ⟨v3, n3, p3, rfl, ho3, ht3, hb3⟩
  obtain ⟨a3, c3, rfl⟩ := ho3.form
  obtain rfl : n3 = R.length := ht3.1
  have b23 := hide hb3
  have O3 := hide ho3
  have T3 := hide ht3
  clear ho3 hb3 HIS ht3
  go_wp2_with fail
  refine (unhide HSS _ (unhide b23)).mono ?_
  rintro e w4 ⟨v4, n4, p4, rfl, ho4, ht4, hb4⟩
  obtain ⟨a4, c4, rfl⟩ := ho4.form
  obtain rfl : n4 = R.length := ht4.1
  have b24 := hide ((unhide b23).trans (hb4.mono (unhide b23).size))
  have O34 := hide ((unhide O3).below hb4)
  have O4 := hide ho4
  have T4 := hide ht4
  have B4 := hide ((unhide B2).trans ((unhide b24).mono (unhide B2).size))
  clear ho4 hb4 HSS O3 b23 ht4
  have hrr : ((R.length : Int) != (R.length : Int)) = false := by simp
  rcases unhide HOUT with ⟨hg0, hR0⟩ | ⟨hgn, hkb, hg1, hR1⟩
  · subst hg0 hR0
    simp only [List.length_nil]
    go_wp2
    go_ret
    exact ⟨rfl, unhide B4⟩
  subst hg1 hR1
  rw [parts_len] at *
  have hk60 := (kB_len hkb).1
  have hkg := (kB_len hkb).2
  generalize hos : owners l ts = os at T3 T4 O34 O4 b24 B4 hrr ⊢
  have HOS := hide hos
  have hfl := firsts_le os ts.length
  have HKG := hide hkg
  have HGN := hide hgn
  have HKB := hide hkb
  have HT3 : Hid (∀ i, i < (firsts os ts.length).length → (p3 i).node = (Split.partAt os ts ts.length ((firsts os ts.length).getD i 0)).node ∧ (p3 i).ks = (Split.partAt os ts ts.length ((firsts os ts.length).getD i 0)).keys) := fun i hi => by
    have := (unhide T3).2 i hi
    rw [parts_get hi] at this
    exact this
  have HT4 : Hid (∀ i, i < (firsts os ts.length).length → (p4 i).node = (Split.partAt os ts ts.length ((firsts os ts.length).getD i 0)).node ∧ (p4 i).ks = (Split.partAt os ts ts.length ((firsts os ts.length).getD i 0)).keys) := fun i hi => by
    have := (unhide T4).2 i hi
    rw [parts_get hi] at this
    exact this
  have HPG := hide (fun i => part_good (os := os) hkg i)
  have HPL := hide (fun i => part_len os ts ts.length i)
  have HAT := hide (fun i (h : i < (firsts os ts.length).length) => @ansE_take os ts ts.length i h)
  clear hos hkg hgn hkb T3 T4 HOUT hoo
  generalize hn : (firsts os ts.length).length = n at *
  have HN := hide hn
  clear hn
  obtain ⟨i0, hi0, hz0, hz1, hz2⟩ := info_item4
  have HI := hide hi0
  have HZ0 := hide hz0
  have HZ1 := hide hz1
  have HZ2 := hide hz2
  obtain ⟨j0, hj0, hy0, hy1, hy2⟩ := StrN.info_ex
  have JI := hide hj0
  have JZ0 := hide hy0
  have JZ1 := hide hy1
  have JZ2 := hide hy2
  clear hi0 hz0 hz1 hz2 hj0 hy0 hy1 hy2
  have hz24 := (unhide b24).size
  go_wp2_with fail
  go_loopw [9, 63] (fun av iv wr => ∃ (i : Nat) (aa : Option Addr) (ac : Nat), i ≤ n ∧ iv = .int .i64 (i : Int) ∧ av = .slice aa i ac ∧ Hid (wr.ownsRow w4.heap.size 9 1 (.slice aa i ac) i (StrN.cells ((ansE os ts ts.length).take i))) ∧ Hid (Below w4.heap.size w4 wr)) (fun _ iv _ => n - (intOf iv).toNat)
  case atStart => exact ⟨0, none, 0, Nat.zero_le _, rfl, rfl, hide (by rw [List.take_zero]; exact World.ownsRow_nil _ _ _ _), hide (Below.refl _ _)⟩
  case round =>
    obtain ⟨i, aa, ac, hi, rfl, rfl, how, hb⟩ := hrel
    have BW := hide ((unhide B4).trans ((unhide hb).mono (unhide B4).size))
    by_cases hlt : i < n
    · obtain ⟨g3, hga, hg3l, hrow3⟩ := part_row (unhide O34) (by omega)
      subst hga
      obtain ⟨g4, hga4, hg4l, hrow4⟩ := part_row (unhide O4) (by omega)
      subst hga4
      have c0 : wr.cell? ⟨g3, i * 2, none⟩ = some (.string (p3 i).node) := ((unhide hb).cell (p := ⟨g3, i * 2, none⟩) hg3l).trans ((hrow3.cell (by omega)).trans (by rw [pc0]))
      have c1 : wr.cell? ⟨g3, i * 2 + 1, none⟩ = some (.slice (some ⟨(p3 i).g, 0, none⟩) (p3 i).ks.length (p3 i).cap) := ((unhide hb).cell (p := ⟨g3, i * 2 + 1, none⟩) hg3l).trans ((hrow3.cell (by omega)).trans (by rw [pc1]))
      have d0 : wr.cell? ⟨g4, i * 2, none⟩ = some (.string (p4 i).node) := ((unhide hb).cell (p := ⟨g4, i * 2, none⟩) hg4l).trans ((hrow4.cell (by omega)).trans (by rw [pc0]))
      have d1 : wr.cell? ⟨g4, i * 2 + 1, none⟩ = some (.slice (some ⟨(p4 i).g, 0, none⟩) (p4 i).ks.length (p4 i).cap) := ((unhide hb).cell (p := ⟨g4, i * 2 + 1, none⟩) hg4l).trans ((hrow4.cell (by omega)).trans (by rw [pc1]))
      have hr3 := ((unhide O34).2.1 i hlt).1
      have hr4 := ((unhide O4).2.1 i hlt).1
      obtain ⟨hn3, hk3⟩ := unhide HT3 i hlt
      obtain ⟨hn4, hk4⟩ := unhide HT4 i hlt
      rw [hn3] at c0
      rw [hn4] at d0
      rw [hk3] at c1 hr3
      rw [hk4] at d1 hr4
      have hKg := unhide HPG ((firsts os ts.length).getD i 0)
      have hKl := unhide HPL ((firsts os ts.length).getD i 0)
      have hat := unhide HAT i hlt
      have HKG3 := hide hKg
      have HAT3 := hide hat
      clear hn3 hk3 hn4 hk4 hrow3 hrow4 hKg hat
      generalize (Split.partAt os ts ts.length ((firsts os ts.length).getD i 0)).keys = K at c1 d1 hr3 hr4 hKl HKG3 HAT3
      generalize (Split.partAt os ts ts.length ((firsts os ts.length).getD i 0)).node = nod at c0 d0
      generalize (p3 i).g = g5 at c1 hr3
      generalize (p3 i).cap = c5 at c1
      generalize (p4 i).g = g6 at d1 hr4
      generalize (p4 i).cap = c6 at d1
      have hg5l := hr3.lt
      have hg6l := hr4.lt
      have HR3 := hide hr3
      have HR4 := hide hr4
      have hwz := (unhide hb).size
      clear hr3 hr4
      have hnn : (nod.toList != nod.toList) = false := by simp
      obtain ⟨k0, k1⟩ := box2 wr 31 (.string nod) (.slice (some ⟨g5, 0, none⟩) K.length c5)
      have q0 := cell_regrown k0
      have q1 := cell_regrown k1
      have q2 := cell_regrown ((World.cell?_of_block (a := ⟨g4, i * 2, none⟩) (Below.heap_alloc wr (.cells #[.string nod, .slice (some ⟨g5, 0, none⟩) K.length c5] 31) g4 (by omega))).trans d0)
      have q3 := cell_regrown ((World.cell?_of_block (a := ⟨g4, i * 2 + 1, none⟩) (Below.heap_alloc wr (.cells #[.string nod, .slice (some ⟨g5, 0, none⟩) K.length c5] 31) g4 (by omega))).trans d1)
      have hBB := fun d os => ((unhide hb).alloc hwz (.cells #[.string nod, .slice (some ⟨g5, 0, none⟩) K.length c5] 31)).trans ((below_regrown (wr.alloc (.cells #[.string nod, .slice (some ⟨g5, 0, none⟩) K.length c5] 31)) d os).mono (by simp; omega))
      have cC := fun d os => Calls.regrown_of (texts_rows g5 g6 K.length c5 c6 K (Go.Sort.grow (redrawn (wr.alloc (.cells #[.string nod, .slice (some ⟨g5, 0, none⟩) K.length c5] 31)) d) os) ((unhide HR3).below (hBB d os) hg5l) ((unhide HR4).below (hBB d os) hg6l) (by omega))
      go_wp2_with fail
      refine wp_region_quiet_below (unhide HMIX) (by kernel_rfl) ?_
      repeat (quiet_step (exact cC _ _))
      refine wpQuiet_nil ?_
      intro _ hw'
      obtain ⟨⟨dq, osq⟩, hw''⟩ := hw'
      subst hw''
      have hkc := below_regrown (wr.alloc (.cells #[.string nod, .slice (some ⟨g5, 0, none⟩) K.length c5] 31)) dq osq
      have b4c := hide (hBB dq osq)
      have z1 := q1 dq osq
      have hzc : wr.heap.size < (Go.Sort.grow (redrawn (wr.alloc (.cells #[.string nod, .slice (some ⟨g5, 0, none⟩) K.length c5] 31)) dq) osq).heap.size := Nat.lt_of_lt_of_le (by simp) hkc.size
      have OWC := hide (OwnR.own_below ((unhide how).alloc (.cells #[.string nod, .slice (some ⟨g5, 0, none⟩) K.length c5] 31)) hkc (Nat.le_refl _))
      generalize (Go.Sort.grow (redrawn (wr.alloc (.cells #[.string nod, .slice (some ⟨g5, 0, none⟩) K.length c5] 31)) dq) osq) = wc at hkc b4c z1 hzc OWC ⊢
      clear q0 q1 q2 q3 cC hBB k0 k1 c0 c1 d0 d1 hkc how
      have RC := hide ((unhide HR3).below (unhide b4c) hg5l)
      have hg5c : g5 < wc.heap.size := (unhide RC).lt
      have hg5c' := hide hg5c
      clear HR3 HR4 HMIX
      go_wp2_with fail
      go_loopw [12, 90] (fun bv jv wr => ∃ (q : Nat) (bb : Option Addr) (bc : Nat), q ≤ K.length ∧ jv = .int .i64 (q : Int) ∧ bv = .slice bb (evL (K.take q)).length bc ∧ Hid (wr.ownsRow wc.heap.size 35 5 (.slice bb (evL (K.take q)).length bc) (evL (K.take q)).length (Own.flat (evL (K.take q)))) ∧ Hid (Below wc.heap.size wc wr)) (fun _ jv _ => K.length - (intOf jv).toNat)
      case atStart => exact ⟨0, none, 0, Nat.zero_le _, rfl, rfl, hide (World.ownsRow_nil _ _ _ _), hide (Below.refl _ _)⟩
      case round =>
        obtain ⟨q, bb, bc, hq, rfl, rfl, hoi, hbi⟩ := hrel
        have hlq := evL_take_le K q
        have hzi := (unhide hbi).size
        by_cases hqt : q < K.length
        · have cq : wr.cell? ⟨g5, q, none⟩ = some (.string (K.getD q ByteArray.empty)) := ((unhide hbi).cell (p := ⟨g5, q, none⟩) hg5c).trans ((unhide RC).cell hqt)
          have HT := hide (evL_take K q hqt)
          have hsz := gkb_size (unhide HKG3 _ (getD_mem hqt))
          generalize K.getD q ByteArray.empty = s at cq HT hsz
          generalize evL (K.take q) = E at HT hoi hlq ⊢
          by_cases hev : s.size % 2 = 0
          · rw [ev_yes hev] at HT
            have hev' : ((s.size : Int) % 2) = 0 := by omega
            go_wp2_with (at_builtin; go_loud (refine wpList_append_own _ rfl _ _ 33 rfl wc.heap.size 35 i0 _ 5 56 Tryz.underlying33 (unhide HI) (unhide HZ0) (unhide HZ1) (unhide HZ2) rfl (by decide) _ _ _ rfl ((unhide hoi).alloc _) ⟨wr.heap.size, 0, none⟩ 1 1 (Own.cellsOf ⟨s, 0, s, 0, 1 + (s.size : Int)⟩) rfl rfl ?c1 ?c2 ?c3 ?c4 ?c5 ?_))
            case c1 => exact Own.news_cells wr ⟨s, 0, s, 0, 1 + (s.size : Int)⟩ _
            case c2 => exact Own.news_one _
            case c3 => unfold maxLen; omega
            case c4 => omega
            case c5 => simp; omega
            intro v' wn hown' hgrow _
            have O9 : Hid (wn.ownsRow wc.heap.size 35 5 v' (evL (K.take (q + 1))).length (Own.flat (evL (K.take (q + 1))))) := Own.own_snoc hown' ((unhide HT).trans (by simp [Int.natCast_add]))
            have B9 := hide (((unhide hbi).alloc (by omega) _).grown hgrow (by simp; omega) (Own.own_block (unhide hoi)))
            obtain ⟨a9, c9, rfl⟩ := Own.own_form (unhide O9)
            clear hown' hgrow hoi HT
            go_wp2
            go_roundw
            case rel => exact ⟨q + 1, a9, c9, by omega, by go_num, rfl, O9, B9⟩
            case measure => simp [intOf]; omega
          · rw [ev_no hev] at HT
            have hev' : ¬ ((s.size : Int) % 2) = 0 := by omega
            have HT' : Hid (evL (K.take (q + 1)) = E) := (unhide HT).trans (by simp)
            clear HT
            go_wp2
            go_roundw
            case rel => exact ⟨q + 1, bb, bc, by omega, by go_num, by rw [unhide HT'], by rw [unhide HT']; exact hoi, hbi⟩
            case measure => simp [intOf]; omega
        · obtain rfl : q = K.length := by omega
          rw [List.take_length] at hoi hlq ⊢
          have hK60 : K.length ≤ 60 := by omega
          have hzt := ev_size (unhide HKG3) hK60
          have B6 := hide ((unhide b4c).trans ((unhide hbi).mono (unhide b4c).size))
          have V6 := hide ((unhide V2').below (((unhide b24).trans ((unhide B6).mono (unhide b24).size))))
          have HVT := hide (Vals.impl_any bb bc (evL K) true wr (Own.own_at (unhide hoi)) (by omega) (ev_fits (unhide HKG3)) (unhide V6).vars.tab)
          rw [ev_text (unhide HKG3) hK60] at HVT
          have HRB := hide (read_back (unhide HKG3) hK60)
          have OW6 := hide (OwnR.own_below (unhide OWC) (unhide hbi) (Nat.le_refl _))
          have HRD := hide (fun (y : ByteArray) w1 (h : y.size ≤ 1048576) hv => Rd.impl_any y true w1 h hv)
          generalize evL K = E at HVT HRB hoi hlq HAT3 hzt ⊢
          generalize told true E ++ lastS = y at HVT HRB HAT3 hzt
          have hee : ((E.length : Int) != (E.length : Int)) = false := by simp
          unfold vtW at HVT
          clear hoi
          go_wp2_with fail
          refine (unhide HVT).mono ?_
          rintro e w6 ⟨rfl, hb6⟩
          have B7 := hide ((unhide B6).trans (hb6.mono (unhide B6).size))
          have V7 := hide ((unhide V6).below hb6)
          have OW7 := hide (OwnR.own_below (unhide OW6) hb6 (Nat.le_refl _))
          clear HVT hb6 V6 OW6 B6
          go_wp2_with fail
          refine (unhide HRD y w6 (by omega) (unhide V7)).mono ?_
          rintro e w7 ⟨v7, its7, ok7, rfl, ho7, hb7, hor⟩
          rw [unhide HRB] at hor
          obtain ⟨rfl, hit⟩ : ok7 = true ∧ E = its7 := by
            rcases hor with ⟨h1, h2⟩ | ⟨_, _, h2⟩
            · exact ⟨h1, Option.some.inj h2⟩
            · simp at h2
          subst hit
          obtain ⟨a7, c7, rfl⟩ := Own.own_form ho7
          have B8 := hide ((unhide B7).trans (hb7.mono (unhide B7).size))
          have OW8 := hide (OwnR.own_below (unhide OW7) hb7 (Nat.le_refl _))
          have hz8 := (unhide B8).size
          clear hb7 ho7 hor HRD V7 OW7 B7 HRB
          go_wp2_with (at_builtin; go_loud (refine wpList_append_own _ rfl _ _ 24 rfl w4.heap.size 9 j0 _ 1 16 Tryz.underlying24 (unhide JI) (unhide JZ0) (unhide JZ1) (unhide JZ2) rfl (by decide) _ _ _ rfl ((unhide OW8).alloc _) ⟨w7.heap.size, 0, none⟩ 1 1 [.string y] rfl rfl ?c1 ?c2 ?c3 ?c4 ?c5 ?_))
          case c1 => exact StrN.news_cells w7 y _
          case c2 => exact StrN.news_one y
          case c3 => unfold maxLen; omega
          case c4 => omega
          case c5 => simp; omega
          intro v' wn hown' hgrow _
          have O9 : Hid (wn.ownsRow w4.heap.size 9 1 v' (i + 1) (StrN.cells ((ansE os ts ts.length).take (i + 1)))) := by
            rw [unhide HAT3, show StrN.cells ((ansE os ts ts.length).take i ++ [y]) = StrN.cells ((ansE os ts ts.length).take i) ++ [.string y] by simp [StrN.cells]]
            exact hown'
          have B9 := hide (((unhide B8).alloc (by omega) _).grown hgrow (by simp; omega) (Own.own_block (unhide OW8)))
          obtain ⟨a9, c9, rfl⟩ := Own.own_form (unhide O9)
          clear hown' hgrow HAT3
          go_wp2
          go_roundw
          case rel => exact ⟨i + 1, a9, c9, by omega, by go_num, rfl, O9, B9⟩
          case measure => simp [intOf]; omega
    · obtain rfl : i = n := by omega
      obtain ⟨wx, hname⟩ : ∃ v, v = wr := ⟨_, rfl⟩
      subst hname
      have hlen : (ansE os ts ts.length).length = i := (ansE_len os ts ts.length).trans (unhide HN)
      rw [List.take_of_length_le (by omega)] at how
      have OA := how
      have B2x := hide ((unhide b24).trans ((unhide hb).mono (unhide b24).size))
      have SX := hide ((unhide HSAT).below (unhide B2x) (Nat.le_refl _))
      have VX := hide ((unhide V2').below (unhide B2x))
      clear how HT3 HT4 HPG HPL HAT O34 O4 HMIX
      go_wp2_with fail
      go_loopw [19, 138] (fun bv jv wr => ∃ (q : Nat) (bb : Option Addr) (bc : Nat), q ≤ ts.length ∧ jv = .int .i64 (q : Int) ∧ bv = .slice bb (evL (ts.take q)).length bc ∧ Hid (wr.ownsRow wx.heap.size 35 5 (.slice bb (evL (ts.take q)).length bc) (evL (ts.take q)).length (Own.flat (evL (ts.take q)))) ∧ Hid (Below wx.heap.size wx wr)) (fun _ jv _ => ts.length - (intOf jv).toNat)
      case atStart => exact ⟨0, none, 0, Nat.zero_le _, rfl, rfl, hide (World.ownsRow_nil _ _ _ _), hide (Below.refl _ _)⟩
      case round =>
        obtain ⟨q, bb, bc, hq, rfl, rfl, hoi, hbi⟩ := hrel
        have hlq := evL_take_le ts q
        have hzi := (unhide hbi).size
        by_cases hqt : q < ts.length
        · obtain ⟨kb, ko, hd, hkb, hkc⟩ := unhide SX (fun e => by rw [e] at hqt; simp at hqt)
          have cq : wr.cell? ⟨kb, ko + q, none⟩ = some (.string (ts.getD q ByteArray.empty)) := ((unhide hbi).cell (p := ⟨kb, ko + q, none⟩) hkb).trans (hkc q hqt)
          have hkb' : kb < wr.heap.size := Nat.lt_of_lt_of_le hkb hzi
          clear hkc
          subst hd
          have HT := hide (evL_take ts q hqt)
          have hsz := gkb_size (unhide HKG _ (getD_mem hqt))
          generalize ts.getD q ByteArray.empty = s at cq HT hsz
          generalize evL (ts.take q) = E at HT hoi hlq ⊢
          by_cases hev : s.size % 2 = 0
          · rw [ev_yes hev] at HT
            have hev' : ((s.size : Int) % 2) = 0 := by omega
            go_wp2_with (at_builtin; go_loud (refine wpList_append_own _ rfl _ _ 33 rfl wx.heap.size 35 i0 _ 5 56 Tryz.underlying33 (unhide HI) (unhide HZ0) (unhide HZ1) (unhide HZ2) rfl (by decide) _ _ _ rfl ((unhide hoi).alloc _) ⟨wr.heap.size, 0, none⟩ 1 1 (Own.cellsOf ⟨s, 0, s, 0, 1 + (s.size : Int)⟩) rfl rfl ?c1 ?c2 ?c3 ?c4 ?c5 ?_))
            case c1 => exact Own.news_cells wr ⟨s, 0, s, 0, 1 + (s.size : Int)⟩ _
            case c2 => exact Own.news_one _
            case c3 => unfold maxLen; omega
            case c4 => omega
            case c5 => simp; omega
            intro v' wn hown' hgrow _
            have O9 : Hid (wn.ownsRow wx.heap.size 35 5 v' (evL (ts.take (q + 1))).length (Own.flat (evL (ts.take (q + 1))))) := Own.own_snoc hown' ((unhide HT).trans (by simp [Int.natCast_add]))
            have B9 := hide (((unhide hbi).alloc (by omega) _).grown hgrow (by simp; omega) (Own.own_block (unhide hoi)))
            obtain ⟨a9, c9, rfl⟩ := Own.own_form (unhide O9)
            clear hown' hgrow hoi HT
            go_wp2
            go_roundw
            case rel => exact ⟨q + 1, a9, c9, by omega, by go_num, rfl, O9, B9⟩
            case measure => simp [intOf]; omega
          · rw [ev_no hev] at HT
            have hev' : ¬ ((s.size : Int) % 2) = 0 := by omega
            have HT' : Hid (evL (ts.take (q + 1)) = E) := (unhide HT).trans (by simp)
            clear HT
            go_wp2
            go_roundw
            case rel => exact ⟨q + 1, bb, bc, by omega, by go_num, by rw [unhide HT'], by rw [unhide HT']; exact hoi, hbi⟩
            case measure => simp [intOf]; omega
        · obtain rfl : q = ts.length := by omega
          rw [List.take_length] at hoi hlq ⊢
          have V6 := hide ((unhide VX).below (unhide hbi))
          have HVT := hide (Vals.impl_any bb bc (evL ts) true wr (Own.own_at (unhide hoi)) (by omega) (ev_fits (unhide HKG)) (unhide V6).vars.tab)
          rw [ev_text (unhide HKG) hk60] at HVT
          have B6 := hide ((unhide B2x).trans ((unhide hbi).mono (unhide B2x).size))
          have OA6 := hide (OwnR.own_below (unhide OA) (unhide hbi) (Nat.le_refl _))
          have hos := unhide HOS
          subst hos
          have HMG := hide (fun w1 (hb1 : Below w2.heap.size w2 w1) (hs1 : StrsAt w1 aa (ansE (owners l ts) ts ts.length)) (hv1 : V2 w1) => merge_opt b cb l d cd ts aa ac w1 ((unhide HLAT).below hb1 (Nat.le_refl _)) hlm (unhide HFIT) ((unhide HSAT).below hb1 (Nat.le_refl _)) htm (unhide HKS) (unhide HGN) (unhide HKB) hs1 (ansE_size (unhide HKG) hk60) hv1)
          rw [hlen] at HMG
          have HAS := hide (fun w1 (h : w1.ownsRow w4.heap.size 9 1 (.slice aa i ac) i (StrN.cells (ansE (owners l ts) ts ts.length))) => (show StrsAt w1 aa (ansE (owners l ts) ts ts.length) from (StrN.own_strs (B := w4.heap.size) (c := ac) (by unfold StrN.OwnT; rw [hlen]; exact h)).1))
          generalize evL ts = E at HVT HMG hoi hlq ⊢
          generalize told true E ++ lastS = y at HVT HMG
          have hyy : (y.toList == y.toList) = true := by simp
          unfold vtW at HVT
          clear hoi hlen
          go_wp2_with fail
          refine (unhide HVT).mono ?_
          rintro e w6 ⟨rfl, hb6⟩
          have B7 := hide ((unhide B6).trans (hb6.mono (unhide B6).size))
          have V7 := hide ((unhide V6).below hb6)
          have OA7 := hide (OwnR.own_below (unhide OA6) hb6 (Nat.le_refl _))
          clear HVT hb6 V6 OA6 B6
          go_wp2_with fail
          refine (unhide HMG w6 (unhide B7) (unhide HAS _ (unhide OA7)) (unhide V7)).mono ?_
          rintro e w7 ⟨rfl, hb7⟩
          have B8 := hide ((unhide B2).trans (((unhide B7).trans (hb7.mono (unhide B7).size)).mono (unhide B2).size))
          clear hb7 HMG HAS
          go_wp2
          go_ret
          exact ⟨rfl, unhide B8⟩
end MgL
end Go.Proofs.YtghckjmpcokhcaaGreatDoor
