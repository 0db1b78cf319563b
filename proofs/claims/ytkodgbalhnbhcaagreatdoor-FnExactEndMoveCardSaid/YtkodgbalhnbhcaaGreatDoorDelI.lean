/-
  The program's (*fleet).closePlaces: places that are no node's go.
-/
import Derived.Test.YtkodgbalhnbhcaaGreatDoorZ24
import Derived.Test.YtkodgbalhnbhcaaGreatDoorOwnerS
import Derived.Lib.SliceRun
namespace Go.Proofs.YtkodgbalhnbhcaaGreatDoor
namespace Fleet
open Go.RowKit Base Store Items OwnR Keep Clus Marks Plc
set_option linter.unusedVariables false

set_option maxRecDepth 10000 in
set_option maxHeartbeats 1000000 in
theorem inner_any (nm : ByteArray) (wt : Int) (bx pb : Nat) (pn : ByteArray) (w : World) (h1 : w.cell? ⟨bx, 0, none⟩ = some (.pointer (some ⟨pb, 0, none⟩))) (h2 : w.cell? ⟨pb, 1, none⟩ = some (.string pn)) :
    Calls Tryz.prog 124 #[.agg #[.string nm, .int .i64 wt], .pointer (some ⟨bx, 0, none⟩)] w fun e w' => e = .returned (.bool (nm.toList == pn.toList)) ∧ Below w.heap.size w w' := by
  have hb1 : bx < w.heap.size := block_lt_of_cell h1
  have hb2 : pb < w.heap.size := block_lt_of_cell h2
  go_enter Tryz.func124, Tryz.ntmps124
  go_wp2_with fail
  go_region
  all_goals
    go_wp2
    go_ret
    first | exact ⟨rfl, bel1 w _⟩ | exact ⟨rfl, (bel1 w _).drew⟩

set_option maxRecDepth 10000 in
set_option maxHeartbeats 1000000 in
theorem index_nodes (b cap : Nat) (l : List Nodes.D) (bx pb : Nat) (pn : ByteArray) (w : World) (hb : b < w.heap.size) (hi : ∀ i, i < l.length → Nodes.At w b (0 + i * 2) (l.getD i Nodes.zero)) (hl : l.length ≤ 1000) (h1 : w.cell? ⟨bx, 0, none⟩ = some (.pointer (some ⟨pb, 0, none⟩))) (h2 : w.cell? ⟨pb, 1, none⟩ = some (.string pn)) :
    Calls Tryz.prog 153 #[.slice (some ⟨b, 0, none⟩) l.length cap, .func (.func 124) #[] #[.pointer (some ⟨bx, 0, none⟩)]] w fun e w' => ∃ i : Int, e = .returned (.int .i64 i) ∧ decide (0 ≤ i) = hasN l pn ∧ Below w.heap.size w w' := by
  have HIT := hide hi
  have HS := hide (fun (x : Nodes.D) w' (hbw : Below w.heap.size w w') => inner_any x.name x.weight bx pb pn w' ((hbw.cell (block_lt_of_cell h1)).trans h1) ((hbw.cell (block_lt_of_cell h2)).trans h2))
  have HN := hide (@hasN_no l pn)
  have HY := hide (fun j => @hasN_yes l pn j)
  obtain ⟨T, hT⟩ : ∃ T, T = hasN l pn := ⟨_, rfl⟩
  rw [← hT] at HN HY ⊢
  clear hi h1 h2 hT
  go_enter Tryz.func153, Tryz.ntmps153
  go_wp2_with fail
  go_loopw [8] (fun iv wr => ∃ k : Nat, k ≤ l.length ∧ iv = .int .i64 (k : Int) ∧ Hid (∀ j, j < k → ((l.getD j Nodes.zero).name.toList == pn.toList) = false) ∧ Hid (Below w.heap.size w wr)) (fun iv _ => l.length - (intOf iv).toNat)
  case atStart => exact ⟨0, Nat.zero_le _, rfl, hide (fun j hj => absurd hj (by omega)), hide (Below.refl _ _)⟩
  case round =>
    obtain ⟨k, hk, rfl, hno, hbk⟩ := hrel
    by_cases hlt : k < l.length
    · obtain ⟨c0, c1⟩ := (unhide HIT k hlt).below (unhide hbk) hb
      rw [Nat.zero_add] at c0 c1
      have hY := hide (unhide HY k hlt)
      have hN : Hid (((l.getD k Nodes.zero).name.toList == pn.toList) = false → ∀ j, j < k + 1 → ((l.getD j Nodes.zero).name.toList == pn.toList) = false) := fun h j hj => if e : j = k then (by rw [e]; exact h) else unhide hno j (by omega)
      generalize l.getD k Nodes.zero = x at c0 c1 hY hN
      have HC := hide (unhide HS x wr (unhide hbk))
      generalize (x.name.toList == pn.toList) = sb at HC hY hN
      go_wp2_with fail
      refine (unhide HC).mono ?_
      rintro e w1 ⟨rfl, hb1⟩
      have B1 := hide ((unhide hbk).trans (hb1.mono (unhide hbk).size))
      clear hb1 c0 c1 HC
      cases sb
      · have H := hide (unhide hN rfl)
        go_wp2
        go_roundw
        case rel => exact ⟨k + 1, by omega, by go_num, H, B1⟩
        case measure => simp [intOf]; omega
      · have H := hide (unhide hY rfl)
        go_wp2
        go_ret
        exact ⟨(k : Int), rfl, by rw [unhide H]; simp, unhide B1⟩
    · obtain rfl : k = l.length := by omega
      have H := hide (unhide HN (unhide hno))
      go_wp2
      go_ret
      exact ⟨-1, rfl, by rw [unhide H]; rfl, unhide hbk⟩
set_option maxRecDepth 10000 in
set_option maxHeartbeats 1000000 in
theorem contains_nodes (b cap : Nat) (l : List Nodes.D) (bx pb : Nat) (pn : ByteArray) (w : World) (hb : b < w.heap.size) (hi : ∀ i, i < l.length → Nodes.At w b (0 + i * 2) (l.getD i Nodes.zero)) (hl : l.length ≤ 1000) (h1 : w.cell? ⟨bx, 0, none⟩ = some (.pointer (some ⟨pb, 0, none⟩))) (h2 : w.cell? ⟨pb, 1, none⟩ = some (.string pn)) :
    Calls Tryz.prog 123 #[.slice (some ⟨b, 0, none⟩) l.length cap, .func (.func 124) #[] #[.pointer (some ⟨bx, 0, none⟩)]] w fun e w' => e = .returned (.bool (hasN l pn)) ∧ Below w.heap.size w w' := by
  have HI := hide (index_nodes b cap l bx pb pn w hb hi hl h1 h2)
  generalize hasN l pn = T at HI ⊢
  clear hi h1 h2
  go_enter Tryz.func123, Tryz.ntmps123
  go_wp2_with fail
  refine (unhide HI).mono ?_
  rintro e w1 ⟨i, rfl, hi, hb1⟩
  have B1 := hide hb1
  have H := hide hi
  clear hb1 hi HI
  go_wp2
  go_ret
  exact ⟨ret_bool (unhide H), unhide B1⟩

/-- A store of what the cell holds already turns nothing. -/
theorem below_same {w u : World} {B X : Nat} {f : Fl} (h : Below B w u) (hX : FB u X f) : Below B w (u.setCell ⟨X, 3, none⟩ (.int .i64 f.lost)) := by
  refine ⟨h.os, h.tape, h.output, by simpa using h.size, fun k hk => ?_⟩
  by_cases e : k = X
  · subst e
    rw [← h.block k hk]
    have : (u.setCell ⟨k, 3, none⟩ (.int .i64 f.lost)).heap[k]? = some (.cells #[.int .i64 f.now, .int .i64 f.nx, .int .i64 f.lim, .int .i64 f.lost, f.v4, f.v5, f.v6, f.v7, rowV f] 116 (0, 0)) := by
      unfold FB at hX; simp [World.setCell, Array.getElem?_modify, hX]
    rw [this, hX]
  · rw [Below.heap_setCell _ _ _ _ (show k ≠ (⟨X, 3, none⟩ : Addr).block from e)]
    exact h.block k hk

set_option maxRecDepth 10000 in
set_option maxHeartbeats 2000000 in
theorem close1_any (X fb : Nat) (f : Fl) (p : Pc) (b cap : Nat) (ns : List Nodes.D) (w : World) (hX : FB w X f) (hfb : w.cell? ⟨fb, 0, none⟩ = some (.pointer (some ⟨X, 0, none⟩))) (hp : PcAt w p) (h4 : f.v4 = .slice (some ⟨b, 0, none⟩) ns.length cap) (hb : b < w.heap.size) (hi : ∀ i, i < ns.length → Nodes.At w b (0 + i * 2) (ns.getD i Nodes.zero)) (hl : ns.length ≤ 1000) (h0 : p.lost = 0) (hlo : 0 ≤ f.lost ∧ f.lost ≤ 1000000) :
    Calls Tryz.prog 122 #[.pointer (some ⟨p.pb, 0, none⟩), .pointer (some ⟨fb, 0, none⟩)] w fun e w' => e = .returned (.bool (!hasN ns p.name)) ∧ Below w.heap.size w w' := by
  have hXl := hX.lt
  have hfl := block_lt_of_cell hfb
  obtain ⟨b0, b1⟩ := hp.box.cells
  have hpl : p.pb < w.heap.size := hp.box.lt
  obtain ⟨l0, l1, l2, l3, -⟩ := Flush.shelf_reads hp.sh
  rw [h0] at l3
  have hhl : p.hb < w.heap.size := block_lt_of_cell l3
  have x4 := hX.cells.2.2.2.2.1
  rw [h4] at x4
  have x3 := hX.cells.2.2.2.1
  have HX := hide hX
  have HCN := hide (fun u (hu : Below w.heap.size w u) (bx : Nat) (hbx : u.cell? ⟨bx, 0, none⟩ = some (.pointer (some ⟨p.pb, 0, none⟩))) => contains_nodes b cap ns bx p.pb p.name u (Nat.lt_of_lt_of_le hb hu.size) (fun i hi' => (hi i hi').below hu hb) hl hbx ((hu.cell (p := ⟨p.pb, 1, none⟩) hpl).trans b1))
  have n0 : (w.alloc (.cells #[.pointer (some ⟨p.pb, 0, none⟩)] 112)).cell? ⟨w.heap.size, 0, none⟩ = some (.pointer (some ⟨p.pb, 0, none⟩)) := by rw [World.cell?_alloc_new]; rfl
  have B0 := hide (bel1 w (.cells #[.pointer (some ⟨p.pb, 0, none⟩)] 112))
  have hz0 : w.heap.size < (w.alloc (.cells #[.pointer (some ⟨p.pb, 0, none⟩)] 112)).heap.size := by simp
  have HXU := hide (fun u (hu : Below w.heap.size w u) => (hu.cell (p := ⟨X, 3, none⟩) hXl).trans x3)
  have HFU := hide (fun u (hu : Below w.heap.size w u) => (hu.cell (p := ⟨fb, 0, none⟩) hfl).trans hfb)
  have HX4 := hide (fun u (hu : Below w.heap.size w u) => (hu.cell (p := ⟨X, 4, none⟩) hXl).trans x4)
  have HPU := hide (fun u (hu : Below w.heap.size w u) => (hu.cell (p := ⟨p.pb, 0, none⟩) hpl).trans b0)
  have HLU := hide (fun u (hu : Below w.heap.size w u) => (hu.cell (p := ⟨p.hb, 3, none⟩) hhl).trans l3)
  have HZU := hide (fun u (hu : Below w.heap.size w u) => (unhide HX).of_block (hu.block X hXl))
  clear hi hX hp h4 hb x3 x4 b0 b1 l0 l1 l2 l3 h0 hfb HX
  obtain ⟨lo1, lo2⟩ := hlo
  generalize hasN ns p.name = T at HCN ⊢
  go_enter Tryz.func122, Tryz.ntmps122
  go_upto_region 1 with fail
  generalize w.alloc (.cells #[.pointer (some ⟨p.pb, 0, none⟩)] 112) = W at n0 B0 hz0 ⊢
  have f0 := unhide HFU W (unhide B0)
  have x4 := unhide HX4 W (unhide B0)
  go_wp2_with fail
  refine (unhide HCN _ (unhide B0) _ n0).mono ?_
  rintro e w1 ⟨rfl, hb1⟩
  have B1 := hide ((unhide B0).trans (hb1.mono (unhide B0).size))
  have n1 := (hb1.cell (p := ⟨w.heap.size, 0, none⟩) hz0).trans n0
  clear hb1 HCN f0 x4 n0
  cases T
  · have f1 := unhide HFU w1 (unhide B1)
    have x3 := unhide HXU w1 (unhide B1)
    have p0 := unhide HPU w1 (unhide B1)
    have l3 := unhide HLU w1 (unhide B1)
    have HZ := hide (unhide HZU w1 (unhide B1))
    have xf := (unhide HZ).frozen 3
    have hx1 : X < w1.heap.size := Nat.lt_of_lt_of_le hXl (unhide B1).size
    have HBS := hide (below_same (unhide B1) (unhide HZ))
    generalize f.lost = fl at x3 HBS lo1 lo2
    go_wp2_with fail
    go_region
    all_goals
      go_wp2
      go_ret
      first | exact ⟨rfl, unhide HBS⟩ | exact ⟨rfl, (unhide HBS).drew⟩
  · go_wp2
    go_ret
    exact ⟨rfl, unhide B1⟩

set_option maxRecDepth 10000 in
set_option maxHeartbeats 2000000 in
theorem index_places (g cap fb : Nat) (ps : List Pc) (del : Pc → Bool) (w : World) (hr : Keep.Row w 112 1 g ps.length cap (ps.map ptr)) (hl : ps.length ≤ 1000)
    (hcl : ∀ p ∈ ps, ∀ u, Keeps [g] w u → Calls Tryz.prog 122 #[.pointer (some ⟨p.pb, 0, none⟩), .pointer (some ⟨fb, 0, none⟩)] u fun e u' => e = .returned (.bool (del p)) ∧ Below u.heap.size u u') :
    Calls Tryz.prog 152 #[.slice (some ⟨g, 0, none⟩) ps.length cap, .func (.func 122) #[] #[.pointer (some ⟨fb, 0, none⟩)]] w fun e w' => ∃ i : Int, e = .returned (.int .i64 i) ∧ ((i = -1 ∧ ∀ j, j < ps.length → del (ps.getD j zeroP) = false) ∨ ∃ k : Nat, i = (k : Int) ∧ k < ps.length ∧ del (ps.getD k zeroP) = true ∧ ∀ j, j < k → del (ps.getD j zeroP) = false) ∧ Below w.heap.size w w' := by
  have HROW : Hid (∀ k u, k < ps.length → Below w.heap.size w u → u.cell? ⟨g, k, none⟩ = some (.pointer (some ⟨(ps.getD k zeroP).pb, 0, none⟩))) := fun k u hk hu => (hr.of_block (hu.block g hr.lt)).cell (by rw [List.getElem?_map, List.getElem?_eq_getElem hk, getD_at hk]; rfl)
  have HCL := hide (fun k u (hk : k < ps.length) (hu : Below w.heap.size w u) => hcl _ (getD_mem hk) u (Keeps.of_below hu (fun _ h _ => h)))
  clear hr hcl
  generalize hn : ps.length = n at *
  clear hn
  go_enter Tryz.func152, Tryz.ntmps152
  go_wp2_with fail
  go_loopw [8] (fun iv wr => ∃ k : Nat, k ≤ n ∧ iv = .int .i64 (k : Int) ∧ Hid (∀ j, j < k → del (ps.getD j zeroP) = false) ∧ Hid (Below w.heap.size w wr)) (fun iv _ => n - (intOf iv).toNat)
  case atStart => exact ⟨0, Nat.zero_le _, rfl, hide (fun j hj => absurd hj (by omega)), hide (Below.refl _ _)⟩
  case round =>
    obtain ⟨k, hk, rfl, hno, hbk⟩ := hrel
    by_cases hlt : k < n
    · have c0 := unhide HROW k wr hlt (unhide hbk)
      have HC := hide (unhide HCL k wr hlt (unhide hbk))
      have hN : Hid (del (ps.getD k zeroP) = false → ∀ j, j < k + 1 → del (ps.getD j zeroP) = false) := fun h j hj => if e : j = k then (by rw [e]; exact h) else unhide hno j (by omega)
      have hY : Hid (del (ps.getD k zeroP) = true → ∃ k' : Nat, (k : Int) = (k' : Int) ∧ k' < n ∧ del (ps.getD k' zeroP) = true ∧ ∀ j, j < k' → del (ps.getD j zeroP) = false) := fun h => ⟨k, rfl, hlt, h, unhide hno⟩
      generalize ps.getD k zeroP = x at c0 HC hY hN
      generalize del x = sb at HC hY hN
      go_wp2_with fail
      refine (unhide HC).mono ?_
      rintro e w1 ⟨rfl, hb1⟩
      have B1 := hide ((unhide hbk).trans (hb1.mono (unhide hbk).size))
      clear hb1 c0 HC
      cases sb
      · have H := hide (unhide hN rfl)
        go_wp2
        go_roundw
        case rel => exact ⟨k + 1, by omega, by go_num, H, B1⟩
        case measure => simp [intOf]; omega
      · have H := hide (unhide hY rfl)
        go_wp2
        go_ret
        exact ⟨(k : Int), rfl, .inr (unhide H), unhide B1⟩
    · obtain rfl : k = n := by omega
      go_wp2
      go_ret
      exact ⟨-1, rfl, .inl ⟨rfl, unhide hno⟩, unhide hbk⟩

set_option maxRecDepth 10000 in
set_option maxHeartbeats 4000000 in
theorem delete_any (g cap fb : Nat) (ps : List Pc) (del : Pc → Bool) (w : World) (hr : Keep.Row w 112 1 g ps.length cap (ps.map ptr)) (hl : ps.length ≤ 1000)
    (hcl : ∀ p ∈ ps, ∀ u, Keeps [g] w u → Calls Tryz.prog 122 #[.pointer (some ⟨p.pb, 0, none⟩), .pointer (some ⟨fb, 0, none⟩)] u fun e u' => e = .returned (.bool (del p)) ∧ Below u.heap.size u u') :
    Calls Tryz.prog 121 #[.slice (some ⟨g, 0, none⟩) ps.length cap, .func (.func 122) #[] #[.pointer (some ⟨fb, 0, none⟩)]] w fun e w' => e = .returned (.slice (some ⟨g, 0, none⟩) (kept del ps).length cap) ∧ Keep.Row w' 112 1 g (kept del ps).length cap ((kept del ps).map ptr) ∧ Keeps [g] w w' := by
  have HIX := hide (index_places g cap fb ps del w hr hl hcl)
  have HR := hide hr
  have hcap : ps.length ≤ cap := by obtain ⟨_, _, _, h, _⟩ := hr; exact h
  have HCL := hide (fun k u (hk : k < ps.length) (hu : Keeps [g] w u) => hcl _ (getD_mem hk) u hu)
  have HALL := hide (@kept_all ps del)
  have HSTA := hide (fun k => @KI.start ps del k)
  have HDO := hide (fun i xs => @KI.done ps del i xs)
  have HKE := hide (fun i j xs => @KI.keep ps del i j xs)
  have HSK := hide (fun i j xs => @KI.skip ps del i j xs)
  have HCE := hide (fun i j xs => @KI.cell ps del i j xs)
  obtain ⟨K, hK⟩ : ∃ K, K = kept del ps := ⟨_, rfl⟩
  rw [← hK] at HALL HDO ⊢
  clear hr hcl hK
  generalize hn : ps.length = n at *
  have HN := hide hn
  clear hn
  go_enter Tryz.func121, Tryz.ntmps121
  go_wp2_with fail
  refine (unhide HIX).mono ?_
  rintro e w1 ⟨i0, rfl, hi0, hb1⟩
  have B1 := hide hb1
  clear hb1 HIX
  rcases hi0 with ⟨rfl, hall⟩ | ⟨k, rfl, hk, hd, hno⟩
  · have HA := hide (unhide HALL hall)
    clear hall
    go_wp2
    go_ret
    rw [unhide HA]
    exact ⟨by rw [unhide HN]; rfl, by rw [unhide HN]; exact (unhide HR).of_block ((unhide B1).block g (unhide HR).lt), Keeps.of_below (unhide B1) (fun _ h _ => h)⟩
  · have HI0 := hide (unhide HSTA k hk hd hno)
    clear hd hno HALL HSTA
    have hk1 : ((k : Int) == -1) = false := beq_eq_false_iff_ne.2 (by omega)
    have hk2 : decide ((k : Int) = -1) = false := decide_eq_false (by omega)
    have HR1 := hide ((unhide HR).of_block ((unhide B1).block g (unhide HR).lt))
    have K1 : Hid (Keeps [g] w w1) := Keeps.of_below (unhide B1) (fun _ h _ => h)
    go_wp2_with fail
    go_loopw [5, 6, 7] (fun s5 s6 s7 wr => ∃ (i j : Nat) (xs : List Value), s5 = .int .i64 (i : Int) ∧ s6 = .int .i64 (j : Int) ∧ i < j ∧ j ≤ n ∧ Hid (KI ps del i j xs) ∧ Hid (Keep.Row wr 112 1 g n cap xs) ∧ Hid (Keeps [g] w wr)) (fun _ s6 _ _ => n - (intOf s6).toNat)
    case atStart => exact ⟨k, k + 1, _, rfl, by go_num, by omega, by omega, HI0, HR1, K1⟩
    case round =>
      obtain ⟨i, j, xs, rfl, rfl, hij, hjn, hki, hrow, hkp⟩ := hrel
      by_cases hlt : j < n
      · have c0 := (unhide hrow).cell (unhide HCE i j xs (unhide hki) hlt)
        have HC := hide (unhide HCL j wr hlt (unhide hkp))
        have hK1 := hide (unhide HKE i j xs (unhide hki) hlt)
        have hK2 := hide (unhide HSK i j xs (unhide hki) hlt)
        generalize ps.getD j zeroP = x at c0 HC hK1 hK2
        generalize del x = sb at HC hK1 hK2
        go_wp2_with fail
        refine (unhide HC).mono ?_
        rintro e w2 ⟨rfl, hb2⟩
        have R2 := hide ((unhide hrow).of_block (hb2.block g (unhide hrow).lt))
        have K2 := hide ((unhide hkp).trans (Keeps.of_below (S := []) hb2 (fun _ h _ => h)) (by simp))
        clear hb2 c0 HC
        cases sb
        · have H := hide (unhide hK1 rfl)
          have hil : i < n := by omega
          have hxl : i < xs.length := by have := (unhide hki).len; have := unhide HN; omega
          have c1 := (unhide R2).cell (List.getElem?_eq_getElem hxl)
          have c2 := (unhide R2).frozen i
          have R3 := hide (row_put (i := i) (unhide R2) (.pointer (some ⟨x.pb, 0, none⟩)))
          have K3 := hide ((unhide K2).setCell (p := ⟨g, i, none⟩) (.inl (by simp)) (.pointer (some ⟨x.pb, 0, none⟩)))
          go_wp2
          go_roundw
          case rel => exact ⟨i + 1, j + 1, _, by go_num, by go_num, by omega, by omega, H, R3, K3⟩
          case measure => simp [intOf]; omega
        · have H := hide (unhide hK2 rfl)
          go_wp2
          go_roundw
          case rel => exact ⟨i, j + 1, xs, rfl, by go_num, by omega, by omega, H, R2, K2⟩
          case measure => simp [intOf]; omega
      · obtain rfl : j = n := by omega
        obtain ⟨d1, d2⟩ := unhide HDO i xs (unhide hki)
        have HD1 := hide d1
        have HD2 := hide d2
        clear d1 d2
        have hxn : xs.length = j := by have := (unhide hki).len; have := unhide HN; omega
        have hcl : ∀ ty, (Builtin.clear_ #[114] ty #[.slice (some ⟨g, i, none⟩) (j - i) (cap - i)]).run Tryz.prog wr = .ok (.tuple #[]) (wr.setCells g i (List.replicate (j - i) (.pointer none))) :=
          fun ty => Lib.run_clear_slice wr _ _ ty _ Tryz.underlying114 Tryz.zeroValue112 rfl rfl g i _ _ (by omega) (fun t ht => by rw [(unhide hrow).cell (List.getElem?_eq_getElem (show i + t < xs.length by omega))]; rfl) (fun t ht => (unhide hrow).frozen _)
        have R3 := hide (row_clear (List.replicate (j - i) (.pointer none)) i wr (row_cut (unhide hrow) (show i ≤ j by omega)) (Nat.le_refl _))
        have K3 := hide (keeps_clear (List.replicate (j - i) (.pointer none)) i wr (unhide hkp))
        clear hrow hkp hxn
        go_wp2
        go_ret
        rw [← unhide HD1, ← unhide HD2]
        exact ⟨rfl, unhide R3, unhide K3⟩

set_option maxRecDepth 10000 in
set_option maxHeartbeats 2000000 in
theorem closePlaces_any (M X : Nat) (f : Fl) (b cap : Nat) (ns : List Nodes.D) (w : World) (hf : FleetAt w M X f) (hpos : 0 < f.ps.length) (hl : f.ps.length ≤ 1000) (h4 : f.v4 = .slice (some ⟨b, 0, none⟩) ns.length cap) (hb : b < M) (hbX : b ≠ X) (hi : ∀ i, i < ns.length → Nodes.At w b (0 + i * 2) (ns.getD i Nodes.zero)) (hnl : ns.length ≤ 1000) (h0 : ∀ p ∈ f.ps, p.lost = 0) (hlo : 0 ≤ f.lost ∧ f.lost ≤ 1000000) (hM : M ≤ w.heap.size) :
    Calls Tryz.prog 90 #[.pointer (some ⟨X, 0, none⟩)] w fun e w' => e = .returned (.tuple #[]) ∧ FleetAt w' M X { f with ps := kept (fun p => !hasN ns p.name) f.ps } ∧ Kp M X w w' := by
  obtain ⟨g, hrv, hgl, hc⟩ := hf.head hpos
  have ha : f.a = some ⟨g, 0, none⟩ := by unfold rowV at hrv; simp only [Value.slice.injEq] at hrv; exact hrv.1
  have hrow := hf.row
  rw [hrv] at hrow
  obtain ⟨g', cap', hv, hMg, hR⟩ := Keep.Row.of_owns hrow hpos
  simp only [Value.slice.injEq, Option.some.injEq, Addr.mk.injEq, and_true, true_and] at hv
  obtain ⟨rfl, rfl⟩ := hv
  have hxm := hf.xm
  have W0 : ∀ v t, Below w.heap.size w (w.alloc (.cells #[v] t)) := fun v t => bel1 w _
  have x8 := hf.box.cells.2.2.2.2.2.2.2.2
  rw [hrv] at x8
  have HDE : Hid (∀ (fb : Nat) (u : World), Below w.heap.size w u → u.cell? ⟨fb, 0, none⟩ = some (.pointer (some ⟨X, 0, none⟩)) → w.heap.size ≤ fb → Calls Tryz.prog 121 #[.slice (some ⟨g, 0, none⟩) f.ps.length f.cap, .func (.func 122) #[] #[.pointer (some ⟨fb, 0, none⟩)]] u fun e w' => e = .returned (.slice (some ⟨g, 0, none⟩) (kept (fun p => !hasN ns p.name) f.ps).length f.cap) ∧ Keep.Row w' 112 1 g (kept (fun p => !hasN ns p.name) f.ps).length f.cap ((kept (fun p => !hasN ns p.name) f.ps).map ptr) ∧ Keeps [g] u w') := fun fb u hu hfb hfbl => by
    refine delete_any g f.cap fb f.ps _ u (hR.of_block (hu.block g hR.lt)) hl (fun p hp v hk => ?_)
    have hfu := hf.below hu
    have hbu : b < u.heap.size := by have := hu.size; omega
    have hbg : b ∉ [g] := by simp; omega
    refine close1_any X fb f p b cap ns v (hfu.box.of_block (hk.block X hfu.box.lt (by simp; omega))) ((hk.cell (block_lt_of_cell hfb) (by simp; omega)).trans hfb) ((hfu.pl p hp).keep hk (fun c hcb hm => ?_)) h4 (Nat.lt_of_lt_of_le hbu hk.size) (fun i hi' => ?_) hnl (h0 p hp) hlo
    · simp only [List.mem_cons, List.not_mem_nil, or_false] at hm
      exact hfu.far p hp c hcb (by rw [hrv, hm]; rfl)
    · obtain ⟨c0, c1⟩ := (hi i hi').below hu (by omega)
      exact ⟨(hk.cell hbu hbg).trans c0, (hk.cell hbu hbg).trans c1⟩
  have HFW : Hid (∀ u w', Below w.heap.size w u → Keeps [g] u w' → Keep.Row w' 112 1 g (kept (fun p => !hasN ns p.name) f.ps).length f.cap ((kept (fun p => !hasN ns p.name) f.ps).map ptr) → FleetAt (w'.setCell ⟨X, 8, none⟩ (.slice (some ⟨g, 0, none⟩) (kept (fun p => !hasN ns p.name) f.ps).length f.cap)) M X { f with ps := kept (fun p => !hasN ns p.name) f.ps } ∧ Kp M X w (w'.setCell ⟨X, 8, none⟩ (.slice (some ⟨g, 0, none⟩) (kept (fun p => !hasN ns p.name) f.ps).length f.cap)) ∧ w'.frozen? ⟨X, 8, none⟩ = false ∧ (w'.cell? ⟨X, 8, none⟩) = some (.slice (some ⟨g, 0, none⟩) f.ps.length f.cap)) := fun u w' hu hk hr => by
    have hfu := hf.below hu
    have hXb : X ∉ [g] := by simp; omega
    refine ⟨hfu.fewer ha hMg _ hk hr, ((Kp.of_below hu hM).trans (Kp.of_keeps hk (Nat.le_trans hM hu.size) (by simpa using hMg))).trans (Kp.setX _ _ _), ?_, ?_⟩
    · rw [hk.frozen hfu.box.lt hXb]; exact hfu.box.frozen 8
    · rw [hk.cell hfu.box.lt hXb]
      have := hfu.box.cells.2.2.2.2.2.2.2.2
      rw [hrv] at this; exact this
  have hXl := hf.box.lt
  generalize hk : kept (fun p => !hasN ns p.name) f.ps = K at HDE HFW ⊢
  generalize hn : f.ps.length = n at *
  clear hf hi h0 hc hR hrow hk hn
  have n0 : (w.alloc (.cells #[.pointer (some ⟨X, 0, none⟩)] 62)).cell? ⟨w.heap.size, 0, none⟩ = some (.pointer (some ⟨X, 0, none⟩)) := by rw [World.cell?_alloc_new]; rfl
  have B0 := hide (bel1 w (.cells #[.pointer (some ⟨X, 0, none⟩)] 62))
  have hz0 : w.heap.size < (w.alloc (.cells #[.pointer (some ⟨X, 0, none⟩)] 62)).heap.size := by simp
  have x8 := ((unhide B0).cell (p := ⟨X, 8, none⟩) hXl).trans x8
  go_enter Tryz.func90, Tryz.ntmps90
  go_upto_region 1 with fail
  generalize w.alloc (.cells #[.pointer (some ⟨X, 0, none⟩)] 62) = W at n0 B0 hz0 x8 ⊢
  have hXW : X < W.heap.size := Nat.lt_of_lt_of_le hXl (unhide B0).size
  go_wp2_with fail
  go_region_with (go_at_call 121; refine (unhide HDE w.heap.size _ (unhide B0).drew n0 (Nat.le_refl _)).mono ?_; rintro e w1 ⟨rfl, hr1, hk1⟩; have n1 := (hk1.cell (b := w.heap.size) (o := 0) hz0 (by simp; omega)).trans n0; have hz1 : X < w1.heap.size := Nat.lt_of_lt_of_le hXW hk1.size; obtain ⟨hf1, hkp, hfr, hc8⟩ := unhide HFW _ w1 (unhide B0).drew hk1 hr1; have F1 := hide hf1; have K1 := hide hkp; clear hf1 hkp hr1 hk1)
  all_goals
    go_wp2
    go_end0
    first | exact ⟨rfl, unhide F1, unhide K1⟩ | exact ⟨rfl, (unhide F1).below ((Below.refl _ _).drew), (unhide K1).trans (Kp.of_below ((Below.refl _ _).drew) (Nat.le_trans hM (unhide K1).size))⟩
end Fleet
end Go.Proofs.YtkodgbalhnbhcaaGreatDoor
