/-
  The program's (*fleet).cluster: what is at work, as a cluster in rows of its own.
-/
import Derived.Test.YthgcfklfpllgnaaDoorFleetN
import Derived.Test.YthgcfklfpllgnaaDoorZ30
import Derived.Test.YthgcfklfpllgnaaDoorZ31
import Derived.Deep.RegionHeld3
namespace Go.Proofs.YthgcfklfpllgnaaDoor
namespace Fleet
open Go.RowKit Base Store Items OwnR Keep Clus Marks Plc
set_option linter.unusedVariables false

/-- What is lost in all, never more than a million. -/
def lostTo (l0 : Int) (ps : List Pc) : Int := ps.foldl (fun l p => min (l + p.lost) 1000000) l0
theorem lostTo_snoc (l0 : Int) (ps : List Pc) (p : Pc) : lostTo l0 (ps ++ [p]) = min (lostTo l0 ps + p.lost) 1000000 := by unfold lostTo; rw [List.foldl_append]; rfl
theorem lostTo_bd {l0 : Int} (h : 0 ≤ l0 ∧ l0 ≤ 1000000) : ∀ (ps : List Pc), (∀ p ∈ ps, 0 ≤ p.lost) → 0 ≤ lostTo l0 ps ∧ lostTo l0 ps ≤ 1000000 := by
  intro ps
  induction ps generalizing l0 with
  | nil => intro _; exact h
  | cons p r ih =>
    intro hp
    have h1 := hp p List.mem_cons_self
    have e : lostTo l0 (p :: r) = lostTo (min (l0 + p.lost) 1000000) r := rfl
    rw [e]
    refine ih ?_ (fun q hq => hp q (List.mem_cons_of_mem _ hq))
    omega
theorem CO.push {u w' : World} {B : Nat} {c : Cl} {x : Pls.Pl} {g cap : Nat} (h : CO u B c) (hx : u.ownsRow B 92 5 (.slice x.a x.its.length x.cap) x.its.length (Own.flat x.its)) (hxf : ∀ k, (Value.slice x.a x.its.length x.cap).ownBlock = some k → (Value.slice c.pa c.ps.length c.pc).ownBlock ≠ some k)
    (hrow : w'.ownsRow B 59 4 (.slice (some ⟨g, 0, none⟩) (c.ps.length + 1) cap) (c.ps.length + 1) (pflat c.ps ++ pcells x)) (hg : u.grownBy w' (Value.slice c.pa c.ps.length c.pc).ownBlock) (hat : (Value.slice c.pa c.ps.length c.pc).ownBlock = some g ∨ g = u.heap.size) :
    CO w' B { c with pa := some ⟨g, 0, none⟩, pc := cap, ps := c.ps ++ [x] } := by
  have hp := PO.snoc h.p hx hxf hrow hg hat
  have hnew : ∀ q, q < u.heap.size → (Value.slice c.pa c.ps.length c.pc).ownBlock ≠ some q → (Value.slice (some ⟨g, 0, none⟩) (c.ps ++ [x]).length cap).ownBlock ≠ some q := by
    intro q hq hne e
    have e' : g = q := by simpa [Value.ownBlock] using e
    rcases hat with e2 | e2
    · exact hne (by rw [e2, e'])
    · omega
  refine ⟨own_grown h.n hg (fun k hk => h.fn k hk), own_grown h.m hg (fun k hk => h.fm k hk), ?_, fun q hq => hnew q (h.n.lt q hq).2 (h.fn q hq), fun q hq => hnew q (h.m.lt q hq).2 (h.fm q hq)⟩
  show PO w' B _ (c.ps ++ [x]).length _ _
  rw [List.length_append]
  exact hp
theorem co_push {u w' : World} {B : Nat} {now nx lim lost : Int} {a1 a2 a3 : Option Addr} {c1 c2 c3 m : Nat} {ns cs : List Nodes.D} {Ms : List Pls.Pl} {x : Pls.Pl} {g cap : Nat} (hm : Ms.length = m) (h : CO u B ⟨now, nx, lim, lost, a1, c1, ns, a2, c2, cs, a3, c3, Ms⟩) (hx : u.ownsRow B 92 5 (.slice x.a x.its.length x.cap) x.its.length (Own.flat x.its)) (hxf : ∀ k, (Value.slice x.a x.its.length x.cap).ownBlock = some k → (Value.slice a3 m c3).ownBlock ≠ some k)
    (hrow : w'.ownsRow B 59 4 (.slice (some ⟨g, 0, none⟩) (m + 1) cap) (m + 1) (pflat Ms ++ pcells x)) (hg : u.grownBy w' (Value.slice a3 m c3).ownBlock) (hat : (Value.slice a3 m c3).ownBlock = some g ∨ g = u.heap.size) :
    CO w' B ⟨now, nx, lim, lost, a1, c1, ns, a2, c2, cs, some ⟨g, 0, none⟩, cap, Ms ++ [x]⟩ := by
  subst hm
  exact CO.push h hx hxf hrow hg hat
theorem co_lost {u : World} {B : Nat} {now nx lim lost : Int} {a1 a2 a3 : Option Addr} {c1 c2 c3 : Nat} {ns cs : List Nodes.D} {Ms : List Pls.Pl} (nl : Int) (h : CO u B ⟨now, nx, lim, lost, a1, c1, ns, a2, c2, cs, a3, c3, Ms⟩) : CO u B ⟨now, nx, lim, nl, a1, c1, ns, a2, c2, cs, a3, c3, Ms⟩ := ⟨h.n, h.m, h.p, h.fn, h.fm⟩
theorem CB.grown {u w' : World} {Y : Nat} {n0 n1 n2 n3 : Int} {u4 u5 u6 : Value} {r : Option Nat} (hc : CB u Y n0 n1 n2 n3 u4 u5 u6) (hg : u.grownBy w' r) (hr : r ≠ some Y) : CB w' Y n0 n1 n2 n3 u4 u5 u6 :=
  (hg.block Y (Array.getElem?_eq_some_iff.1 hc).1 (fun e => hr e.symm)).trans hc
abbrev zeroB : Obj := .cells #[.int .i64 0, .int .i64 0, .int .i64 0, .int .i64 0, .slice none 0 0, .slice none 0 0, .slice none 0 0] 27
theorem CB.new (u : World) (now nx lim lost : Int) (v4 v5 v6 : Value) : CB (u.alloc (.cells #[.int .i64 now, .int .i64 nx, .int .i64 lim, .int .i64 lost, v4, v5, v6] 27)) u.heap.size now nx lim lost v4 v5 v6 := by
  show (u.heap.push _)[u.heap.size]? = _
  simp
theorem co_two {u : World} {B : Nat} {a1 a2 : Option Addr} {c1 c2 : Nat} {ns cs : List Nodes.D} (h1 : u.ownsRow B 42 2 (.slice a1 ns.length c1) ns.length (nflat ns)) (h2 : u.ownsRow B 42 2 (.slice a2 cs.length c2) cs.length (nflat cs)) (now nx lim lost : Int) : CO u B ⟨now, nx, lim, lost, a1, c1, ns, a2, c2, cs, none, 0, []⟩ :=
  ⟨h1, h2, PO.nil u B, fun q _ e => by simp [Value.ownBlock] at e, fun q _ e => by simp [Value.ownBlock] at e⟩
theorem below_7 {w w' : World} {B X : Nat} (h : Below B w w') (hX : B ≤ X) (v0 v1 v2 v3 v4 v5 v6 : Value) : Below B w (((((((w'.setCell ⟨X, 0, none⟩ v0).setCell ⟨X, 1, none⟩ v1).setCell ⟨X, 2, none⟩ v2).setCell ⟨X, 3, none⟩ v3).setCell ⟨X, 4, none⟩ v4).setCell ⟨X, 5, none⟩ v5).setCell ⟨X, 6, none⟩ v6) :=
  ((((((h.setCell hX v0).setCell hX v1).setCell hX v2).setCell hX v3).setCell hX v4).setCell hX v5).setCell hX v6
/-- Two rows of items apart. -/
def farI (x y : Pls.Pl) : Prop := ∀ q, (Value.slice x.a x.its.length x.cap).ownBlock = some q → (Value.slice y.a y.its.length y.cap).ownBlock ≠ some q
/-- No two of a cluster's rows are one. -/
structure AP (c : Cl) : Prop where
  nm : ∀ q, (Value.slice c.na c.ns.length c.nc).ownBlock = some q → (Value.slice c.ca c.cs.length c.cc).ownBlock ≠ some q
  it : c.ps.Pairwise farI
/-- How (*fleet).cluster ends. -/
def CuEnd (C : CC) (w : World) (e : Ending) (w' : World) : Prop := ∃ c : Cl, e = .returned (clV c) ∧ plain c = C ∧ CO w' w.heap.size c ∧ AP c ∧ Below w.heap.size w w'

/-- What the places need to be told. -/
structure Fine (f : Fl) : Prop where
  len : f.ps.length ≤ 100
  pos : 0 < f.ps.length
  lost : 0 ≤ f.lost ∧ f.lost ≤ 1000000
  ps : ∀ p ∈ f.ps, 0 ≤ p.lost ∧ p.lost ≤ 1000000 ∧ p.name.size ≤ 1048576 ∧ p.its.length ≤ 100

set_option maxRecDepth 10000 in
set_option maxHeartbeats 4000000 in
theorem cluster_any (M X : Nat) (f : Fl) (na ca : Option Addr) (nc cc : Nat) (ns cs : List Nodes.D) (w : World) (hf : FleetAt w M X f) (h4 : f.v4 = .slice na ns.length nc) (h5 : f.v5 = .slice ca cs.length cc) (hn : Nodes.LAt w na ns) (hc : Nodes.LAt w ca cs)
    (ln : ns.length ≤ 1000) (lc : cs.length ≤ 1000) (fn : ∀ x ∈ ns, x.name.size ≤ 1048576) (fc : ∀ x ∈ cs, x.name.size ≤ 1048576) (hfi : Fine f) :
    Calls Tryd.prog 19 #[.pointer (some ⟨X, 0, none⟩)] w (CuEnd ⟨f.now, f.nx, f.lim, lostTo f.lost f.ps, ns, cs, f.ps.map pcore⟩ w) := by
  obtain ⟨C, hC⟩ : ∃ C : CC, C = ⟨f.now, f.nx, f.lim, lostTo f.lost f.ps, ns, cs, f.ps.map pcore⟩ := ⟨_, rfl⟩
  rw [← hC]
  have HCC := hide hC
  clear hC
  obtain ⟨i0, hi, hz0, hz1, hz2⟩ := info_pl
  have HI := hide hi
  have HZ0 := hide hz0
  have HZ1 := hide hz1
  have HZ2 := hide hz2
  have HF := hide hf
  have HFI := hide hfi
  have HC1 : Hid (∀ u, Below w.heap.size w u → Calls Tryd.prog 32 #[.slice na ns.length nc] u fun e u' => ∃ a cap, e = .returned (.slice a ns.length cap) ∧ u'.ownsRow u.heap.size 42 2 (.slice a ns.length cap) ns.length (nflat ns) ∧ Below u.heap.size u u') := fun u hu => copy_any na nc ns u (hn.below hu (Nat.le_refl _)) ln fn
  have HC2 : Hid (∀ u, Below w.heap.size w u → Calls Tryd.prog 32 #[.slice ca cs.length cc] u fun e u' => ∃ a cap, e = .returned (.slice a cs.length cap) ∧ u'.ownsRow u.heap.size 42 2 (.slice a cs.length cap) cs.length (nflat cs) ∧ Below u.heap.size u u') := fun u hu => copy_any ca cc cs u (hc.below hu (Nat.le_refl _)) lc fc
  obtain ⟨W, hW⟩ : ∃ W, W = w.alloc (.cells #[.int .i64 0, .int .i64 0, .int .i64 0, .int .i64 0, .slice none 0 0, .slice none 0 0, .slice none 0 0] 27) := ⟨_, rfl⟩
  have BWw : Hid (Below w.heap.size w W) := by show Below _ _ _; rw [hW]; exact bel1 w _
  have CBR : Hid (CB W w.heap.size 0 0 0 0 (.slice none 0 0) (.slice none 0 0) (.slice none 0 0)) := by
    show W.heap[w.heap.size]? = _
    rw [hW]; show (w.heap.push _)[w.heap.size]? = _; simp
  have hzW : w.heap.size < W.heap.size := by rw [hW]; simp
  have HFW := hide (hf.below (unhide BWw))
  obtain ⟨x0, x1, x2, x3, x4, x5, x6, x7, x8⟩ := (unhide HFW).box.cells
  have hXW : X < W.heap.size := (unhide HFW).box.lt
  rw [h4] at x4
  rw [h5] at x5
  have HWE := hide hW
  clear hi hz0 hz1 hz2 hf hn hc fn fc x6 x7 x8 h4 h5 hW
  go_enter Tryd.func19, Tryd.ntmps19
  go_upto_region 1 with fail
  rw [← unhide HWE]
  clear HWE
  generalize f.now = now at x0 HCC ⊢
  generalize f.nx = nx at x1 HCC ⊢
  generalize f.lim = lim at x2 HCC ⊢
  generalize hlo : f.lost = lost at x3 HCC ⊢
  have HLO := hide hlo
  clear hlo
  go_cut [3] (fun s3 wx => ∃ (Y : Nat) (a1 : Option Addr) (c1 : Nat) (a2 : Option Addr) (c2 : Nat), s3 = .pointer (some ⟨Y, 0, none⟩) ∧ W.heap.size ≤ Y ∧ Hid (CB wx Y now nx lim lost (.slice a1 ns.length c1) (.slice a2 cs.length c2) (.slice none 0 0)) ∧ Hid (CO wx W.heap.size ⟨now, nx, lim, lost, a1, c1, ns, a2, c2, cs, none, 0, []⟩) ∧ Hid (∀ q, (Value.slice a1 ns.length c1).ownBlock = some q → (Value.slice a2 cs.length c2).ownBlock ≠ some q) ∧ Hid (Below W.heap.size W wx))
  case first =>
    have HSK : Hid (∀ u, Below W.heap.size W u → u.cell? ⟨X, 0, none⟩ = some (.int .i64 now) ∧ u.cell? ⟨X, 1, none⟩ = some (.int .i64 nx) ∧ u.cell? ⟨X, 2, none⟩ = some (.int .i64 lim) ∧ u.cell? ⟨X, 3, none⟩ = some (.int .i64 lost) ∧ u.cell? ⟨X, 4, none⟩ = some (.slice na ns.length nc) ∧ u.cell? ⟨X, 5, none⟩ = some (.slice ca cs.length cc)) := fun u hu => by
      have e := fun o => hu.cell (p := ⟨X, o, none⟩) hXW
      exact ⟨(e 0).trans x0, (e 1).trans x1, (e 2).trans x2, (e 3).trans x3, (e 4).trans x4, (e 5).trans x5⟩
    have BW0 : Hid (Below W.heap.size W W.drew) := (Below.refl _ _).drew
    have BZ0 : Hid (Below W.heap.size W (W.alloc zeroB).drew) := (bel1 W _).drew
    have CZ0 : Hid (CB (W.alloc zeroB).drew W.heap.size 0 0 0 0 (.slice none 0 0) (.slice none 0 0) (.slice none 0 0)) := CB.new W 0 0 0 0 _ _ _
    have hz0 : W.heap.size < (W.alloc zeroB).drew.heap.size := by show W.heap.size < (W.alloc zeroB).heap.size; simp
    have HD1 := hide (fun u (hu : Below W.heap.size W u) => unhide HC1 u ((unhide BWw).trans (hu.mono (by omega))))
    have HD2 := hide (fun u (hu : Below W.heap.size W u) => unhide HC2 u ((unhide BWw).trans (hu.mono (by omega))))
    clear HC1 HC2
    go_region_held3 (fun u => u.cell? ⟨X, 0, none⟩ = some (.int .i64 now) ∧ u.cell? ⟨X, 1, none⟩ = some (.int .i64 nx) ∧ u.cell? ⟨X, 2, none⟩ = some (.int .i64 lim) ∧ u.cell? ⟨X, 3, none⟩ = some (.int .i64 lost) ∧ u.cell? ⟨X, 4, none⟩ = some (.slice na ns.length nc) ∧ u.cell? ⟨X, 5, none⟩ = some (.slice ca cs.length cc))
      (first | with_reducible assumption | with_reducible exact unhide HSK _ (unhide BW2) | with_reducible exact unhide HSK _ ((unhide BW2).alloc (unhide BW2).size _) | with_reducible exact unhide HSK _ (below_7 (unhide BW2) (unhide HLE) _ _ _ _ _ _ _) | with_reducible exact unhide HSK _ (unhide BW1) | with_reducible exact unhide HSK _ ((unhide BW1).alloc (unhide BW1).size _) | with_reducible exact unhide HSK _ (unhide BW0) | with_reducible exact unhide HSK _ (unhide BZ0))
      (first
        | (go_at_call 32; ((with_reducible (refine (unhide HD1 _ (unhide BW0)).mono ?_)); rintro e u1 ⟨a1, c1, rfl, ho1, hb1⟩; have BW1 := hide ((unhide BW0).trans (hb1.mono (unhide BW0).size)); have OW1 := hide (own_le ho1 (unhide BW0).size); clear ho1 hb1))
        | (go_at_call 32; ((with_reducible (refine (unhide HD1 _ (unhide BZ0)).mono ?_)); rintro e u1 ⟨a1, c1, rfl, ho1, hb1⟩; have BW1 := hide ((unhide BZ0).trans (hb1.mono (unhide BZ0).size)); have OW1 := hide (own_le ho1 (unhide BZ0).size); have CX1 := hide ((unhide CZ0).below hb1 hz0); clear ho1 hb1))
        | (go_at_call 32; ((with_reducible (refine (unhide HD2 _ (unhide BW1)).mono ?_)); rintro e u2 ⟨a2, c2, rfl, ho2, hb2⟩; have BW2 := hide ((unhide BW1).trans (hb2.mono (unhide BW1).size)); have OW2 := hide (own_le ho2 (unhide BW1).size); have NM : Hid (∀ q, (Value.slice a1 ns.length c1).ownBlock = some q → (Value.slice a2 cs.length c2).ownBlock ≠ some q) := fun q h1 h2 => by { have := ((unhide OW1).lt q h1).2; have := (ho2.lt q h2).1; omega }; have OV1 := hide (own_below (unhide OW1) hb2 (Nat.le_refl _)); (try (have CX2 := hide ((unhide CX1).below hb2 (Array.getElem?_eq_some_iff.1 (unhide CX1)).1); have HLE : Hid (W.heap.size ≤ W.heap.size) := Nat.le_refl _; obtain ⟨y0, y1, y2, y3, y4, y5, y6, yf, yl⟩ := (unhide CX2).cells)); clear ho2 hb2))
        | (go_at_call 32; ((with_reducible (refine (unhide HD2 _ ((unhide BW1).alloc (unhide BW1).size zeroB)).mono ?_)); rintro e u2 ⟨a2, c2, rfl, ho2, hb2⟩; have BV1 := hide ((unhide BW1).alloc (unhide BW1).size zeroB); have BW2 := hide ((unhide BV1).trans (hb2.mono (unhide BV1).size)); have OW2 := hide (own_le ho2 (unhide BV1).size); have NM : Hid (∀ q, (Value.slice a1 ns.length c1).ownBlock = some q → (Value.slice a2 cs.length c2).ownBlock ≠ some q) := fun q h1 h2 => by { have := ((unhide OW1).lt q h1).2; have h3 := (ho2.lt q h2).1; rw [World.size_alloc] at h3; omega }; have OV1 := hide (own_below (own_below (unhide OW1) (bel1 u1 zeroB) (Nat.le_refl _)) hb2 (Nat.le_refl _)); have CX2 := hide ((CB.new u1 0 0 0 0 (.slice none 0 0) (.slice none 0 0) (.slice none 0 0)).below hb2 (by simp)); have HLE : Hid (W.heap.size ≤ u1.heap.size) := (unhide BW1).size; obtain ⟨y0, y1, y2, y3, y4, y5, y6, yf, yl⟩ := (unhide CX2).cells; clear ho2 hb2)))
    all_goals
      go_wp2_with fail
      go_meet
      first
        | exact ⟨_, a1, c1, a2, c2, rfl, unhide HLE, hide ((unhide CX2).st7 now nx lim lost _ _ _), hide (CO.box7 (co_two (unhide OV1) (unhide OW2) now nx lim lost) (unhide CX2) now nx lim lost _ _ _), NM, hide (below_7 (unhide BW2) (unhide HLE) _ _ _ _ _ _ _)⟩
        | exact ⟨u2.heap.size, a1, c1, a2, c2, rfl, (unhide BW2).size, hide (CB.new u2 now nx lim lost _ _ _), hide ((co_two (unhide OV1) (unhide OW2) now nx lim lost).below (bel1 u2 _) (Nat.le_refl _)), NM, hide ((unhide BW2).alloc (unhide BW2).size _)⟩
  case rest =>
  obtain ⟨Y, a1, c1, a2, c2, rfl, hY, CB1, CO1, NM1, B1⟩ := hcut
  clear x0 x1 x2 x3 x4 x5 HC1 HC2
  have hfin := unhide HFI
  have hlb := hfin.lost
  rw [unhide HLO] at hlb
  have hpos := hfin.pos
  have hlen := hfin.len
  obtain ⟨g, gc, hgv, hgM, hgc, hgl⟩ := own_some (unhide HFW).row hpos
  have HGV := hide hgv
  have h8 := ((unhide HFW).below (unhide B1)).box.cells.2.2.2.2.2.2.2.2
  rw [hgv] at h8
  have HPS : Hid (∀ k, k < f.ps.length → ∀ u, Below W.heap.size W u → u.cell? ⟨g, k, none⟩ = some (.pointer (some ⟨(f.ps.getD k zeroP).pb, 0, none⟩)) ∧ PcAt u (f.ps.getD k zeroP)) := fun k hk u hu => by
    have hfa := (unhide HFW).below hu
    have hrow := hfa.row
    rw [hgv] at hrow
    have e : f.ps.getD k zeroP = f.ps[k] := by simp [hk]
    refine ⟨own_cells hrow (by rw [List.getElem?_map, List.getElem?_eq_getElem hk, e]; rfl), hfa.pl _ (by rw [e]; exact List.getElem_mem _)⟩
  have HPF : Hid (∀ k, k < f.ps.length → 0 ≤ (f.ps.getD k zeroP).lost ∧ (f.ps.getD k zeroP).lost ≤ 1000000 ∧ (f.ps.getD k zeroP).name.size ≤ 1048576 ∧ (f.ps.getD k zeroP).its.length ≤ 100) := fun k hk => by
    have e : f.ps.getD k zeroP = f.ps[k] := by simp [hk]
    rw [e]; exact hfin.ps _ (List.getElem_mem _)
  have HTK : Hid (∀ k, k < f.ps.length → f.ps.take (k + 1) = f.ps.take k ++ [f.ps.getD k zeroP]) := fun k hk => by
    rw [List.take_succ_eq_append_getElem hk]; simp [List.getD_eq_getElem?_getD, List.getElem?_eq_getElem hk]
  have HAL : Hid (f.ps.take f.ps.length = f.ps) := List.take_length
  clear hfin hgv
  generalize f.ps = ps at *
  generalize hnn : ps.length = n at *
  go_wp2_with fail
  go_loopw [38] (fun iv wr => ∃ (k : Nat) (lst : Int) (a3 : Option Addr) (c3 : Nat) (Ms : List Pls.Pl), k ≤ n ∧ iv = .int .i64 (k : Int) ∧ 0 ≤ lst ∧ lst ≤ 1000000 ∧ Hid (lst = lostTo lost (ps.take k)) ∧ Hid (CB wr Y now nx lim lst (.slice a1 ns.length c1) (.slice a2 cs.length c2) (.slice a3 k c3)) ∧ Hid (CO wr W.heap.size ⟨now, nx, lim, lst, a1, c1, ns, a2, c2, cs, a3, c3, Ms⟩) ∧ Hid (Ms.length = k ∧ Ms.map Pls.core = (ps.take k).map pcore) ∧ Hid (Ms.Pairwise farI) ∧ Hid (Below W.heap.size W wr)) (fun iv _ => n - (intOf iv).toNat)
  case atStart => exact ⟨0, lost, none, 0, [], Nat.zero_le _, rfl, hlb.1, hlb.2, hide rfl, CB1, CO1, hide ⟨rfl, rfl⟩, hide List.Pairwise.nil, B1⟩
  case round =>
    obtain ⟨k, lst, a3, c3, Ms, hk, rfl, hl0, hl1, hls, hcb, hco, hms, hpw, hbel⟩ := hrel
    obtain ⟨hm1, hm2⟩ := unhide hms
    subst hm1
    have HM2 := hide hm2
    clear hm2 hms
    generalize hmm : Ms.length = m at *
    have HMM := hide hmm
    clear hmm
    have hzr := (unhide hbel).size
    obtain ⟨y0, y1, y2, y3, y4, y5, y6, yf, yl⟩ := (unhide hcb).cells
    by_cases hlt : m < n
    · obtain ⟨r0, hpc⟩ := unhide HPS m hlt wr (unhide hbel)
      obtain ⟨q1, q2, q3, q4⟩ := unhide HPF m hlt
      have HST := hide (unhide HTK m hlt)
      have HPK := hide (fun u hu => (unhide HPS m hlt u hu).2)
      generalize ps.getD m zeroP = p at r0 hpc q1 q2 q3 q4 HST HPK
      obtain ⟨b0, b1⟩ := hpc.box.cells
      have hpl := hpc.box.lt
      have HCL := hide (fun u => CloneS.clone_any p.name u q3)
      have HSO : Hid (∀ u, Below W.heap.size W u → Calls Tryd.prog 34 #[.pointer (some ⟨p.hb, 0, none⟩)] u fun e u' => ∃ a cap, e = .returned (.agg #[.int .i64 p.lim, .int .i64 p.nx, .slice a p.its.length cap]) ∧ u'.ownsRow u.heap.size 92 5 (.slice a p.its.length cap) p.its.length (Own.flat p.its) ∧ Below u.heap.size u u') := fun u hu => _root_.Go.Proofs.YthgcfklfpllgnaaDoor.Shelf.store_shelf u p.hb p.S p.lim p.nx p.lost p.its (unhide HPK u hu).sh q4
      have HROW : Hid (wr.ownsRow W.heap.size 59 4 (.slice a3 m c3) m (pflat Ms)) := by
        have := (unhide hco).p.row
        rw [← unhide HMM]; exact this
      clear hpc
      go_upto_region 5 with fail
      go_cut [56] (fun s56 wx => ∃ (g' cap' : Nat) (sa : Option Addr) (sc : Nat), s56 = .slice (some ⟨g', 0, none⟩) (m + 1) cap' ∧ Hid (CB wx Y now nx lim lst (.slice a1 ns.length c1) (.slice a2 cs.length c2) (.slice (some ⟨g', 0, none⟩) (m + 1) cap')) ∧ Hid (CO wx W.heap.size ⟨now, nx, lim, lst, a1, c1, ns, a2, c2, cs, some ⟨g', 0, none⟩, cap', Ms ++ [⟨p.name, p.lim, p.nx, sa, sc, p.its⟩]⟩) ∧ Hid ((Ms ++ [(⟨p.name, p.lim, p.nx, sa, sc, p.its⟩ : Pls.Pl)]).Pairwise farI) ∧ Hid (Below W.heap.size W wx))
      case first =>
        go_region_law (first
          | (refine step_append_lies _ (by rfl) _ _ _ (by rfl) W.heap.size 59 i0 _ 4 56 Tryd.underlying25 (unhide HI) (unhide HZ0) (unhide HZ1) (unhide HZ2) rfl (by decide) _ _ _ (by rfl) (unhide OWR _) ⟨u4.heap.size, 0, none⟩ 1 1 (pcells ⟨p.name, p.lim, p.nx, sa, sc, p.its⟩) (by rfl) rfl (pnews u4 ⟨p.name, p.lim, p.nx, sa, sc, p.its⟩ _) (pcells_one ⟨p.name, p.lim, p.nx, sa, sc, p.its⟩) (by omega) (by unfold maxLen; omega) (by omega) (by rw [World.size_alloc]; omega) (u4.heap.size + 1) (by simp) ?_; intro g' cap' w5 hown5 hgrow hat hlt5; have CBA := (unhide CB4).below (bel1 u4 (.cells #[.string p.name, .int .i64 p.lim, .int .i64 p.nx, .slice sa p.its.length sc] 59)) (Array.getElem?_eq_some_iff.1 (unhide CB4)).1; have CBG := CB.grown CBA hgrow (box_far (unhide OWR _) CBA (by decide)); obtain ⟨z0, z1, z2, z3, z4, z5, z6, zf, zl⟩ := CBG.cells; have CBN := hide (CBG.set6 (.slice (some ⟨g', 0, none⟩) (m + 1) cap')); have CON := hide (CO.box (co_push (unhide HMM) ((unhide CO4).below (bel1 u4 (.cells #[.string p.name, .int .i64 p.lim, .int .i64 p.nx, .slice sa p.its.length sc] 59)) (Nat.le_refl _)) (x := ⟨p.name, p.lim, p.nx, sa, sc, p.its⟩) (own_below (unhide SO4) (bel1 u4 _) (Nat.le_refl _)) (unhide SN4) hown5 hgrow (by rcases hat with e | e; exact .inl e; exact .inr (by rw [e]; simp))) CBG 6 (.slice (some ⟨g', 0, none⟩) (m + 1) cap')); have BN := hide ((((unhide BC4).alloc (unhide BC4).size (.cells #[.string p.name, .int .i64 p.lim, .int .i64 p.nx, .slice sa p.its.length sc] 59)).grown hgrow (by rw [World.size_alloc]; omega) (own_block (unhide HROW))).setCell (p := ⟨Y, 6, none⟩) hY (.slice (some ⟨g', 0, none⟩) (m + 1) cap')); clear hown5 hgrow hat CBA CBG)
          | (go_simp; go_at_call 33; (refine (unhide HCL _).mono ?_; rintro e u3 ⟨rfl, hb3⟩; have hb3' := bdrew hb3; have BC3 := hide ((unhide hbel).trans (hb3'.mono (unhide hbel).size)); have CO3 := hide ((unhide hco).below hb3' (Nat.le_refl _)); have CB3 := hide ((unhide hcb).below hb3' yl); have OR3 := hide (own_below (unhide HROW) hb3' (Nat.le_refl _)); have m6 := (hb3.cell (p := ⟨Y, 6, none⟩) yl).trans y6; have m0 := (hb3.cell (p := ⟨p.pb, 0, none⟩) hpl).trans b0; have m1 := (hb3.cell (p := ⟨p.pb, 1, none⟩) hpl).trans b1; have hz3 : wr.heap.size ≤ u3.heap.size := hb3.size; clear hb3 hb3'))
          | (go_simp; go_at_call 34; (refine (unhide HSO _ (unhide BC3)).mono ?_; rintro e u4 ⟨sa, sc, rfl, ho4, hb4⟩; have BC4 := hide ((unhide BC3).trans (hb4.mono (unhide BC3).size)); have CO4 := hide ((unhide CO3).below hb4 (Nat.le_refl _)); have CB4 := hide ((unhide CB3).below hb4 (Nat.lt_of_lt_of_le yl hz3)); have OWR : Hid (∀ o, (u4.alloc o).ownsRow W.heap.size 59 4 (.slice a3 m c3) m (pflat Ms)) := fun o => own_below (own_below (unhide OR3) hb4 (Nat.le_refl _)) (bel1 u4 o) (Nat.le_refl _); have SO4 := hide (own_le ho4 (unhide BC3).size); have SN4 : Hid (∀ q, (Value.slice sa p.its.length sc).ownBlock = some q → (Value.slice a3 m c3).ownBlock ≠ some q) := fun q hq e => by { have h1 := (ho4.lt q hq).1; have h2 := ((unhide OR3).lt q e).2; omega }; have SP4 : Hid ((Ms ++ [(⟨p.name, p.lim, p.nx, sa, sc, p.its⟩ : Pls.Pl)]).Pairwise farI) := List.pairwise_append.2 ⟨unhide hpw, List.pairwise_singleton _ _, fun y hy z hz q h1 h2 => by { rw [List.mem_singleton] at hz; subst hz; have h3 := ((unhide CO3).p.its y hy).lt q h1; have h4 := (ho4.lt q h2).1; omega }⟩; have l6 := (hb4.cell (p := ⟨Y, 6, none⟩) (Nat.lt_of_lt_of_le yl hz3)).trans m6; have hz4 : u3.heap.size ≤ u4.heap.size := hb4.size; have hY4 : Y < u4.heap.size := Nat.lt_of_lt_of_le yl (Nat.le_trans hz3 hz4); clear ho4 hb4)))
        all_goals
          go_wp2_with fail
          go_meet
          exact ⟨g', cap', sa, sc, rfl, CBN, CON, SP4, BN⟩
      case rest =>
      obtain ⟨g', cap', sa, sc, rfl, CBN, CON, SPN, BN⟩ := hcut
      clear y0 y1 y2 y3 y4 y5 y6 yf yl r0 b0 b1 hcb hco hbel HROW HCL HSO hpl
      have hpc := unhide HPK _ (unhide BN)
      obtain ⟨b0, b1⟩ := hpc.box.cells
      obtain ⟨-, -, -, l3, -, -⟩ := Flush.shelf_reads hpc.sh
      clear hpc
      obtain ⟨y0, y1, y2, y3, y4, y5, y6, yf, yl⟩ := (unhide CBN).cells
      have hwr : IntKind.i64.wrap (lst + p.lost) = lst + p.lost := by rw [IntKind.wrap_i64]; omega
      have HLS : Hid (min (lst + p.lost) 1000000 = lostTo lost (ps.take (m + 1))) := by
        show min _ _ = _
        rw [unhide HST, lostTo_snoc, ← unhide hls]
      obtain ⟨nl, hnl⟩ : ∃ nl, nl = min (lst + p.lost) 1000000 := ⟨_, rfl⟩
      have hn0 : 0 ≤ nl ∧ nl ≤ 1000000 := by rw [hnl]; omega
      have HNL := hide hnl
      rw [← hnl] at HLS
      have CBM := hide (CB.blk (w' := (wc.setCell ⟨Y, 3, none⟩ (.int .i64 nl)).drew) ((unhide CBN).set3 nl) rfl)
      have COM := hide (co_lost nl ((CO.box (unhide CON) (unhide CBN) 3 (.int .i64 nl)).below ((Below.refl _ _).drew) (Nat.le_refl _)))
      have BM := hide (((unhide BN).setCell (p := ⟨Y, 3, none⟩) hY (.int .i64 nl)).drew)
      have HMS : Hid ((Ms ++ [(⟨p.name, p.lim, p.nx, sa, sc, p.its⟩ : Pls.Pl)]).length = m + 1 ∧ (Ms ++ [(⟨p.name, p.lim, p.nx, sa, sc, p.its⟩ : Pls.Pl)]).map Pls.core = (ps.take (m + 1)).map pcore) := by
        refine ⟨by rw [List.length_append, unhide HMM]; rfl, ?_⟩
        rw [unhide HST, List.map_append, List.map_append, unhide HM2]; rfl
      clear hnl HST hls HM2 HMM
      go_wp2_with fail
      go_region
      all_goals
        rw [← unhide HNL]
        go_wp2
        go_roundw
        case rel => exact ⟨m + 1, nl, _, cap', _, by omega, by go_num, hn0.1, hn0.2, HLS, CBM, COM, HMS, SPN, BM⟩
        case measure => simp [intOf]; omega
    · obtain rfl : m = n := by omega
      have HRB := hide ((unhide CBR).below (unhide hbel) hzW)
      obtain ⟨t0, t1, t2, t3, t4, t5, t6, tf, tl⟩ := (unhide HRB).cells
      have HPE : Hid (plain ⟨now, nx, lim, lst, a1, c1, ns, a2, c2, cs, a3, c3, Ms⟩ = C) := by
        show CC.mk _ _ _ _ _ _ _ = _
        dsimp only
        rw [unhide HM2, unhide hls, unhide HAL, unhide HCC]
      have BE := hide ((unhide BWw).trans ((unhide hbel).mono (by omega)))
      go_wp2
      refine bodyPost_ret (v := clV ⟨now, nx, lim, lst, a1, c1, ns, a2, c2, cs, a3, c3, Ms⟩) (by simp [results, Tryd.results19, go_sem, clV, unhide HMM, t0, t1, t2, t3, t4, t5, t6]) rfl ⟨_, rfl, unhide HPE, CO.le (B := W.heap.size) ?_ (by omega), ⟨unhide NM1, unhide hpw⟩, ?_⟩
      · repeat (refine CO.set ?_ (by first | (simp; done) | (simp; omega)) _)
        exact unhide hco
      · repeat (refine Below.setCell ?_ (by first | (simp; done) | (simp; omega)) _)
        exact unhide BE
end Fleet
end Go.Proofs.YthgcfklfpllgnaaDoor
