/-
  The lane that is being drawn: its box, its waits with their room, the cursor; an append to its waits. No Go function is spoken of here.
-/
import Derived.Test.YtfbfnoofapgneaaLaneN
import Derived.Test.YtfbfnoofapgneaaCurA
import Derived.Laws.IdiomCopy
import Derived.Deep.RegionLawGrows
namespace Go.Proofs.Ytfbfnoofapgneaa
namespace Lanes
open Go.RowKit Base GoodKey Waits Marks OwnR WaitsW
set_option linter.unusedVariables false

section
variable {w w' : World} {B : Nat} {a : Option Addr} {l : List D} {cc : Nat}
theorem Room.keep (h : Room w B a cc) (hz : w.heap.size ≤ w'.heap.size) (hb : ∀ b, b < w.heap.size → B ≤ b → w'.heap[b]? = w.heap[b]?) : Room w' B a cc := by
  rcases h with h | ⟨g, o, h1, h2, h3, h4⟩
  · exact .inl h
  · refine .inr ⟨g, o, h1, h2, by omega, fun j hj => ?_⟩
    have e := hb g h3 h2
    rw [World.cell?_of_block (w := w) (a := ⟨g, o + j, none⟩) e, World.frozen?_of_block (w := w) (a := ⟨g, o + j, none⟩) e]
    exact h4 j hj
theorem lat_keep (h : LAt w a l) (hr : Room w B a cc) (hz : w.heap.size ≤ w'.heap.size) (hb : ∀ b, b < w.heap.size → B ≤ b → w'.heap[b]? = w.heap[b]?) : LAt w' a l := by
  intro hne
  obtain ⟨b, off, rfl, hlt, hc⟩ := h hne
  rcases hr with ⟨h1, _⟩ | ⟨g, o, h1, h2, h3, _⟩
  · simp at h1
  · simp only [Option.some.injEq, Addr.mk.injEq, and_true] at h1
    obtain ⟨rfl, rfl⟩ := h1
    have e := hb b h3 h2
    refine ⟨b, off, rfl, by omega, fun i hi => ?_⟩
    obtain ⟨c0, c1⟩ := hc i hi
    exact ⟨(World.cell?_of_block (w := w) (a := ⟨b, off + i * 2, none⟩) e).trans c0, (World.cell?_of_block (w := w) (a := ⟨b, off + i * 2 + 1, none⟩) e).trans c1⟩
theorem getD_left (l : List D) (y : D) (i : Nat) (h : i < l.length) : (l ++ [y]).getD i zero = l.getD i zero := by
  simp [List.getD_eq_getElem?_getD, List.getElem?_append_left h]
theorem getD_last (l : List D) (y : D) : (l ++ [y]).getD l.length zero = y := by simp
theorem one_news {g : Nat} {y : D} {t : TypeId} {fz : Nat × Nat} (h : w.heap[g]? = some (.cells #[.int .i64 y.id, .int .i64 y.since] t fz)) (j : Nat) (u : Value) (hj : (cellsOf y)[j]? = some u) : w.cell? ((⟨g, 0, none⟩ : Addr).add j) = some u := by
  rw [Go.WideShapes.add_plain, Nat.zero_add]
  rw [← hj]
  simp [World.cell?, h, cellsOf]
theorem bel_sets {g : Nat} (hg : B ≤ g) (vs : List Value) (o : Nat) {w0 : World} (h : Below B w0 w) : Below B w0 (w.setCells g o vs) := by
  induction vs generalizing w o with
  | nil => exact h
  | cons v r ih => exact ih (o + 1) (h.setCell (p := ⟨g, o, none⟩) hg v)
theorem isSome_set (w : World) (b o : Nat) (vs : List Value) (x : Addr) (h : (w.cell? x).isSome = true) : ((w.setCells b o vs).cell? x).isSome = true := by
  induction vs generalizing w o with
  | nil => exact h
  | cons v r ih =>
    refine ih (w.setCell ⟨b, o, none⟩ v) (o + 1) ?_
    by_cases e : (⟨b, o, none⟩ : Addr) = x
    · subst e
      obtain ⟨u, hu⟩ := Option.isSome_iff_exists.1 h
      rw [World.cell?_setCell_same _ _ _ hu]; rfl
    · rw [World.cell?_setCell_other _ _ _ _ e]; exact h
/-- Where there is room: the new one behind the others. -/
theorem lat_room {g o n : Nat} {y : D} (h : LAt w (some ⟨g, o, none⟩) l) (hn : l.length + 1 ≤ n) (hg : g < w.heap.size) (hr : ∀ j, j < n * 2 → (w.cell? ⟨g, o + j, none⟩).isSome = true ∧ w.frozen? ⟨g, o + j, none⟩ = false) :
    LAt (w.setCells g (o + l.length * 2) (cellsOf y)) (some ⟨g, o, none⟩) (l ++ [y]) := by
  intro _
  have hlen : (cellsOf y).length = 2 := rfl
  have hin := World.cell?_setCells_in g (cellsOf y) (o + l.length * 2) w (fun j hj => by
    rw [hlen] at hj
    rw [Nat.add_assoc]
    exact (hr (l.length * 2 + j) (by omega)).1)
  refine ⟨g, o, rfl, by have := (bel_sets (Nat.zero_le g) (cellsOf y) (o + l.length * 2) (Below.refl 0 w)).size; omega, fun i hi => ?_⟩
  by_cases hil : i < l.length
  · rw [getD_left l y i hil]
    obtain ⟨b, off, hab, hlt, hc⟩ := h (by intro e; simp [e] at hil)
    simp only [Option.some.injEq, Addr.mk.injEq, and_true] at hab
    obtain ⟨rfl, rfl⟩ := hab
    obtain ⟨c0, c1⟩ := hc i hil
    refine ⟨(World.cell?_setCells_out _ _ _ _ _ (fun _ _ => .inl ?_)).trans c0, (World.cell?_setCells_out _ _ _ _ _ (fun _ _ => .inl ?_)).trans c1⟩
    · show o + i * 2 < o + l.length * 2; omega
    · show o + i * 2 + 1 < o + l.length * 2; omega
  · obtain rfl : i = l.length := by rw [List.length_append, List.length_singleton] at hi; omega
    rw [getD_last]
    exact ⟨hin 0 (by rw [hlen]; omega), hin 1 (by rw [hlen]; omega)⟩
theorem room_set {g o k n : Nat} {vs : List Value} (hB : B ≤ g) (hg : g < w.heap.size) (hr : ∀ j, j < n * 2 → (w.cell? ⟨g, o + j, none⟩).isSome = true ∧ w.frozen? ⟨g, o + j, none⟩ = false) :
    Room (w.setCells g k vs) B (some ⟨g, o, none⟩) n := by
  refine .inr ⟨g, o, rfl, hB, by have := (bel_sets (Nat.zero_le g) vs k (Below.refl 0 w)).size; omega, fun j hj => ⟨?_, ?_⟩⟩
  · exact isSome_set w g k vs _ (hr j hj).1
  · rw [World.frozen?_setCells]; exact (hr j hj).2
end
section
variable {ops : Array Oper} {o : Oper} {a : Act} {K : Act → World → Prop} {Q : Exit → Act → World → Prop} {E : Prop}
theorem step_wait (w : World) (hgd : o.guard = none) (s x : Operand) (ho : o.op = Op.call { callee := Callee.builtin Builtin.append, args := #[s, x], argTypes := #[23, 23] })
    (B : Nat) (ad : Option Addr) (cc n : Nat) (l : List D) (hs : a.eval s = .slice ad n cc) (hn : n = l.length) (hat : LAt w ad l) (hroom : Room w B ad cc) (hl : l.length ≤ 1000) (hlen : l.length ≤ cc)
    (g : Nat) (y : D) (t : TypeId) (fz : Nat × Nat) (hx : a.eval x = .slice (some ⟨g, 0, none⟩) 1 1) (hg : w.heap[g]? = some (.cells #[.int .i64 y.id, .int .i64 y.since] t fz)) (hB : B ≤ w.heap.size)
    (h : ∀ a' c' w', LAt w' a' (l ++ [y]) → Room w' B a' c' → l.length + 1 ≤ c' → Below B w w' → K (a.put o.dst (.slice a' (n + 1) c')) w') :
    if Region.wanted o (yielded ops a.tmps) = true then Oper.wp Try.prog o a w K Q else E := by
  subst hn
  obtain ⟨i0, hi, hz0, hz1, hz2⟩ := info_ex
  by_cases hc : l.length + 1 ≤ cc
  · rcases hroom with ⟨_, h0⟩ | ⟨b, off, rfl, h2, h3, h4⟩
    · omega
    · refine step_append_room hgd s x _ ho 36 i0 2 Try.underlying23 hi hz1 b off _ cc hs ⟨g, 0, none⟩ 1 1 (cellsOf y) hx rfl (one_news hg) (news_one y) hc (fun j hj => ?_) ?_
      · have hj' : j < 2 := hj
        rw [Nat.add_assoc]
        exact h4 (l.length * 2 + j) (by omega)
      · exact h _ _ _ (lat_room hat hc h3 h4) (room_set h2 h3 h4) hc (bel_sets h2 _ _ (Below.refl _ _))
  · have hcc : cc = l.length := by omega
    have hl0 : ∀ (v' : Value) w', w'.ownsRow w.heap.size 36 2 v' (l.length + 1) (flat l ++ cellsOf y) → w.grownBy w' none → K (a.put o.dst v') w' := fun v' w' h1 h2 => by
      obtain ⟨a', c', rfl⟩ := own_form h1
      have hO : Own w' w.heap.size a' (l ++ [y]) c' := by
        unfold Own
        rw [List.length_append, List.length_singleton, flat_append, flat_one]
        exact h1
      refine h a' c' w' hO.at (hO.room.le hB) (by have := own_room hO; rw [List.length_append, List.length_singleton] at this; exact this) ?_
      exact (Below.refl B w).grown h2 hB (fun k e => by simp at e)
    refine step_append_grows hgd s x _ ho 36 i0 _ 2 16 Try.underlying23 hi hz0 hz1 hz2 rfl (by decide) ad _ cc (flat l) hs (fun e => ?_) (flat_length l) (fun b e j u hj => ?_) ⟨g, 0, none⟩ 1 1 (cellsOf y) hx rfl (one_news hg) (news_one y) (by omega) (by unfold maxLen; omega) (by omega) hl0
    · rcases hroom with ⟨_, h0⟩ | ⟨b, off, h1, _⟩
      · omega
      · rw [e] at h1; simp at h1
    · have hne : l ≠ [] := by intro e; rw [e] at hj; simp [flat] at hj
      obtain ⟨b', off, hab, hlt, hcl⟩ := hat hne
      rw [e] at hab
      simp only [Option.some.injEq] at hab
      subst hab
      exact news_lat hcl j u hj
end

/-- The lane's box L, the result's box R, the cursor c. -/
structure Ln (w0 w : World) (c : Nat) (ca : Option Addr) (n cap k R L : Nat) (ep fa : Int) (a : Option Addr) (l : List D) (cc : Nat) : Prop where
  cu : Cur.Cu w0 w c ca n cap k
  box : w.cell? ⟨L, 0, none⟩ = some (.int .i64 ep) ∧ w.cell? ⟨L, 1, none⟩ = some (.int .i64 fa) ∧ w.cell? ⟨L, 2, none⟩ = some (.slice a l.length cc)
  res : w.cell? ⟨R, 0, none⟩ = some (.int .i64 0) ∧ w.cell? ⟨R, 1, none⟩ = some (.int .i64 0) ∧ w.cell? ⟨R, 2, none⟩ = some (.slice none 0 0)
  fl : ∀ o, w.frozen? ⟨L, o, none⟩ = false
  fr : ∀ o, w.frozen? ⟨R, o, none⟩ = false
  lt : c < R ∧ R < L ∧ L < w.heap.size
  lat : LAt w a l
  room : Room w (L + 1) a cc
  len : l.length ≤ cc
section
variable {w0 w w' : World} {c : Nat} {ca : Option Addr} {n cap k k' R L : Nat} {ep fa : Int} {a : Option Addr} {l : List D} {cc : Nat}
theorem Ln.keep (h : Ln w0 w c ca n cap k R L ep fa a l cc) (hcu : Cur.Cu w0 w' c ca n cap k') (hz : w.heap.size ≤ w'.heap.size) (hb : ∀ b, b < w.heap.size → b ≠ c → w'.heap[b]? = w.heap[b]?) : Ln w0 w' c ca n cap k' R L ep fa a l cc := by
  obtain ⟨_, ⟨x0, x1, x2⟩, ⟨y0, y1, y2⟩, fl, fr, ⟨h1, h2, h3⟩, lat, room, len⟩ := h
  have eL := hb L h3 (by omega)
  have eR := hb R (by omega) (by omega)
  have cL := fun o => World.cell?_of_block (w := w) (a := ⟨L, o, none⟩) eL
  have cR := fun o => World.cell?_of_block (w := w) (a := ⟨R, o, none⟩) eR
  refine ⟨hcu, ⟨(cL _).trans x0, (cL _).trans x1, (cL _).trans x2⟩, ⟨(cR _).trans y0, (cR _).trans y1, (cR _).trans y2⟩, fun o => (World.frozen?_of_block (w := w) (a := ⟨L, o, none⟩) eL).trans (fl o), fun o => (World.frozen?_of_block (w := w) (a := ⟨R, o, none⟩) eR).trans (fr o), ⟨h1, h2, by omega⟩, lat_keep lat room hz (fun b h4 h5 => hb b h4 (by omega)), room.keep hz (fun b h4 h5 => hb b h4 (by omega)), len⟩
theorem Ln.pick (h : Ln w0 w c ca n cap k R L ep fa a l cc) (hcu : Cur.Cu w0 w' c ca n cap k') (hg : w.grownBy w' (some c)) : Ln w0 w' c ca n cap k' R L ep fa a l cc :=
  h.keep hcu hg.size (fun b hb hne => hg.block b hb (fun e => hne (by simpa using e)))
theorem cu_below (h : Cur.Cu w0 w c ca n cap k) (hb : Below w.heap.size w w') : Cur.Cu w0 w' c ca n cap k := by
  obtain ⟨⟨q, sd, c0, c1, c2, hq⟩, fz, hlt, hlo, hbel⟩ := h
  have e := fun o => hb.cell (p := ⟨c, o, none⟩) hlt
  exact ⟨⟨q, sd, (e _).trans c0, (e _).trans c1, (e _).trans c2, hq⟩, fun o => (hb.frozen (p := ⟨c, o, none⟩) hlt).trans (fz o), Nat.lt_of_lt_of_le hlt hb.size, hlo, hbel.trans (hb.mono (Nat.le_trans hlo (Nat.le_of_lt hlt)))⟩
theorem Ln.below (h : Ln w0 w c ca n cap k R L ep fa a l cc) (hb : Below w.heap.size w w') : Ln w0 w' c ca n cap k R L ep fa a l cc :=
  h.keep (cu_below h.cu hb) hb.size (fun b hlt _ => hb.block b hlt)
theorem Ln.le (h : Ln w0 w c ca n cap k R L ep fa a l cc) (hk : k ≤ k') : Ln w0 w c ca n cap k' R L ep fa a l cc := h.keep (h.cu.le hk) (Nat.le_refl _) (fun _ _ _ => rfl)
theorem cu_gb {r : Nat} (h : Cur.Cu w0 w c ca n cap k) (hg : w.grownBy w' (some r)) (hr : c < r) : Cur.Cu w0 w' c ca n cap k := by
  obtain ⟨⟨q, sd, c0, c1, c2, hq⟩, fz, hlt, hlo, hbel⟩ := h
  have e := hg.block c hlt (fun e => by simp at e; omega)
  have ec : ∀ o, w'.cell? ⟨c, o, none⟩ = w.cell? ⟨c, o, none⟩ := fun o => World.cell?_of_block (a := ⟨c, o, none⟩) e
  refine ⟨⟨q, sd, (ec _).trans c0, (ec _).trans c1, (ec _).trans c2, hq⟩, fun o => (World.frozen?_of_block (w := w) (a := ⟨c, o, none⟩) e).trans (fz o), Nat.lt_of_lt_of_le hlt hg.size, hlo, hbel.grown hg (Nat.le_trans hlo (Nat.le_of_lt hlt)) (fun g e => by simp at e; omega)⟩
/-- Another lane into the box. -/
theorem Ln.put (h : Ln w0 w c ca n cap k R L ep fa a l cc) (ep' fa' : Int) (a' : Option Addr) (l' : List D) (cc' : Nat) (h1 : LAt w a' l') (h2 : Room w (L + 1) a' cc') (h3 : l'.length ≤ cc') :
    Ln w0 (((w.setCell ⟨L, 0, none⟩ (.int .i64 ep')).setCell ⟨L, 1, none⟩ (.int .i64 fa')).setCell ⟨L, 2, none⟩ (.slice a' l'.length cc')) c ca n cap k R L ep' fa' a' l' cc' := by
  obtain ⟨cu, ⟨x0, x1, x2⟩, ⟨y0, y1, y2⟩, fl, fr, ⟨p1, p2, p3⟩, lat, room, len⟩ := h
  have hg := gb_set (gb_set (gb_set (gb_refl w (some L)) 0 (.int .i64 ep')) 1 (.int .i64 fa')) 2 (.slice a' l'.length cc')
  refine ⟨cu_gb cu hg (by omega), ⟨?_, ?_, ?_⟩, ?_, fun o => ?_, fun o => ?_, ⟨p1, p2, by have := hg.size; omega⟩, lat_keep h1 h2 hg.size (fun b hb hne => hg.block b hb (fun e => by simp at e; omega)), h2.keep hg.size (fun b hb hne => hg.block b hb (fun e => by simp at e; omega)), h3⟩
  · go_simp
  · go_simp
  · go_simp
  · have eR := hg.block R (by omega) (fun e => by simp at e; omega)
    have cR := fun o => World.cell?_of_block (a := ⟨R, o, none⟩) eR
    exact ⟨(cR _).trans y0, (cR _).trans y1, (cR _).trans y2⟩
  · rw [frozen_set, frozen_set, frozen_set]; exact fl o
  · rw [frozen_set, frozen_set, frozen_set]; exact fr o
/-- Another epoch. -/
theorem Ln.put0 (h : Ln w0 w c ca n cap k R L ep fa a l cc) (ep' : Int) : Ln w0 (w.setCell ⟨L, 0, none⟩ (.int .i64 ep')) c ca n cap k R L ep' fa a l cc := by
  obtain ⟨cu, ⟨x0, x1, x2⟩, ⟨y0, y1, y2⟩, fl, fr, ⟨p1, p2, p3⟩, lat, room, len⟩ := h
  have hg := gb_set (gb_refl w (some L)) 0 (.int .i64 ep')
  refine ⟨cu_gb cu hg (by omega), ⟨?_, ?_, ?_⟩, ?_, fun o => ?_, fun o => ?_, ⟨p1, p2, by have := hg.size; omega⟩, lat_keep lat room hg.size (fun b hb hne => hg.block b hb (fun e => by simp at e; omega)), room.keep hg.size (fun b hb hne => hg.block b hb (fun e => by simp at e; omega)), len⟩
  · go_simp
  · go_simp
  · go_simp
  · have eR := hg.block R (by omega) (fun e => by simp at e; omega)
    have cR := fun o => World.cell?_of_block (a := ⟨R, o, none⟩) eR
    exact ⟨(cR _).trans y0, (cR _).trans y1, (cR _).trans y2⟩
  · rw [frozen_set]; exact fl o
  · rw [frozen_set]; exact fr o
/-- Other waits. -/
theorem Ln.put2 (h : Ln w0 w c ca n cap k R L ep fa a l cc) (a' : Option Addr) (l' : List D) (cc' : Nat) {w1 : World} (hb : Below (L + 1) w w1) (h1 : LAt w1 a' l') (h2 : Room w1 (L + 1) a' cc') (h3 : l'.length ≤ cc') :
    Ln w0 (w1.setCell ⟨L, 2, none⟩ (.slice a' l'.length cc')) c ca n cap k R L ep fa a' l' cc' := by
  obtain ⟨cu, ⟨x0, x1, x2⟩, ⟨y0, y1, y2⟩, fl, fr, ⟨p1, p2, p3⟩, lat, room, len⟩ := h
  have hz := hb.size
  have eL := hb.block L (by omega)
  have eR := hb.block R (by omega)
  have cL := fun o => World.cell?_of_block (w := w) (a := ⟨L, o, none⟩) eL
  have cR := fun o => World.cell?_of_block (w := w) (a := ⟨R, o, none⟩) eR
  replace x0 := (cL 0).trans x0
  replace x1 := (cL 1).trans x1
  replace x2 := (cL 2).trans x2
  have cu1 : Cur.Cu w0 w1 c ca n cap k := by
    obtain ⟨⟨q, sd, c0, c1, c2, hq⟩, fz, hlt, hlo, hbel⟩ := cu
    have e := fun o => hb.cell (p := ⟨c, o, none⟩) (show c < L + 1 by omega)
    exact ⟨⟨q, sd, (e _).trans c0, (e _).trans c1, (e _).trans c2, hq⟩, fun o => (hb.frozen (p := ⟨c, o, none⟩) (show c < L + 1 by omega)).trans (fz o), by omega, hlo, hbel.trans (hb.mono (by omega))⟩
  have hg := gb_set (gb_refl w1 (some L)) 2 (.slice a' l'.length cc')
  refine ⟨cu_gb cu1 hg (by omega), ⟨?_, ?_, ?_⟩, ?_, fun o => ?_, fun o => ?_, ⟨p1, p2, by have := hg.size; omega⟩, lat_keep h1 h2 hg.size (fun b hb hne => hg.block b hb (fun e => by simp at e; omega)), h2.keep hg.size (fun b hb hne => hg.block b hb (fun e => by simp at e; omega)), h3⟩
  · clear cL cR; go_simp
  · clear cL cR; go_simp
  · clear cL cR; go_simp
  · have eR' := hg.block R (by omega) (fun e => by simp at e; omega)
    have cR' := fun o => World.cell?_of_block (w := w1) (a := ⟨R, o, none⟩) eR'
    exact ⟨(cR' _).trans ((cR _).trans y0), (cR' _).trans ((cR _).trans y1), (cR' _).trans ((cR _).trans y2)⟩
  · rw [frozen_set]; exact (World.frozen?_of_block (w := w) (a := ⟨L, o, none⟩) eL).trans (fl o)
  · rw [frozen_set]; exact (World.frozen?_of_block (w := w) (a := ⟨R, o, none⟩) eR).trans (fr o)
theorem Ln.put2n (h : Ln w0 w c ca n cap k R L ep fa a l cc) (a' : Option Addr) (l' : List D) (cc' m : Nat) (hm : l'.length = m) {w1 : World} (hb : Below (L + 1) w w1) (h1 : LAt w1 a' l') (h2 : Room w1 (L + 1) a' cc') (h3 : m ≤ cc') :
    Ln w0 (w1.setCell ⟨L, 2, none⟩ (.slice a' m cc')) c ca n cap k R L ep fa a' l' cc' := by
  subst hm
  exact h.put2 a' l' cc' hb h1 h2 h3
theorem cu_drew (h : Cur.Cu w0 w c ca n cap k) : Cur.Cu w0 w.drew c ca n cap k := ⟨h.cells, h.fz, h.lt, h.lo, h.bel.drew⟩
theorem Ln.drew1 (h : Ln w0 w c ca n cap k R L ep fa a l cc) : Ln w0 w.drew c ca n cap k R L ep fa a l cc := h.keep (cu_drew h.cu) (Nat.le_refl _) (fun _ _ _ => rfl)
theorem Ln.drew (h : Ln w0 w c ca n cap k R L ep fa a l cc) (j : Nat) : Ln w0 (w.drewN j) c ca n cap k R L ep fa a l cc := h.keep (h.cu.draws j) (Nat.le_refl _) (fun _ _ _ => rfl)
end
/-- What is drawn. -/
def LaneDrawn (w0 : World) (c : Nat) (ca : Option Addr) (n cap k : Nat) (e : Ending) (w' : World) : Prop :=
  ∃ (ep fa : Int) (a : Option Addr) (l : List D) (cc : Nat), e = .returned (.agg #[.int .i64 ep, .int .i64 fa, .slice a l.length cc]) ∧ l.length ≤ 41 ∧ l.length ≤ cc ∧ LAt w' a l ∧ Cur.Cu w0 w' c ca n cap k ∧ ∀ b o, a = some ⟨b, o, none⟩ → c < b
/-- The lane is handed back through the result's box. -/
theorem Ln.out {w0 w : World} {c : Nat} {ca : Option Addr} {n cap k R L : Nat} {ep fa : Int} {a : Option Addr} {l : List D} {cc : Nat} (h : Ln w0 w c ca n cap k R L ep fa a l cc) (hl : l.length ≤ 41) :
    LaneDrawn w0 c ca n cap k (.returned (.agg #[.int .i64 ep, .int .i64 fa, .slice a l.length cc])) (((w.setCell ⟨R, 0, none⟩ (.int .i64 ep)).setCell ⟨R, 1, none⟩ (.int .i64 fa)).setCell ⟨R, 2, none⟩ (.slice a l.length cc)) := by
  obtain ⟨cu, ⟨x0, x1, x2⟩, ⟨y0, y1, y2⟩, fl, fr, ⟨p1, p2, p3⟩, lat, room, len⟩ := h
  have hg := gb_set (gb_set (gb_set (gb_refl w (some R)) 0 (.int .i64 ep)) 1 (.int .i64 fa)) 2 (.slice a l.length cc)
  refine ⟨ep, fa, a, l, cc, rfl, hl, len, lat_keep lat room hg.size (fun b hb hne => hg.block b hb (fun e => by simp at e; omega)), cu_gb cu hg (by omega), fun b o e => ?_⟩
  rcases room with ⟨h1, _⟩ | ⟨g, o', h1, h2, _⟩
  · rw [e] at h1; simp at h1
  · rw [e] at h1
    simp only [Option.some.injEq, Addr.mk.injEq] at h1
    omega
end Lanes
end Go.Proofs.Ytfbfnoofapgneaa
