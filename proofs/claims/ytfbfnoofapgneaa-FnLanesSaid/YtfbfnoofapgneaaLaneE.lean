/-
  The model's DrawSendOn: some lane, an id, a time; in bounds.
-/
import Derived.Test.YtfbfnoofapgneaaLaneD
namespace Go.Proofs.Ytfbfnoofapgneaa
namespace Lanes
open Go.RowKit Base GoodKey Waits Marks OwnR WaitsW
set_option linter.unusedVariables false

theorem lat_gb {w w' : World} {a : Option Addr} {l : List D} {c : Nat} (h : LAt w a l) (hg : w.grownBy w' (some c)) (hne : ∀ b o, a = some ⟨b, o, none⟩ → b ≠ c) : LAt w' a l := by
  intro hn
  obtain ⟨b, off, rfl, hlt, hc⟩ := h hn
  have e := hg.block b hlt (fun e => hne b off rfl (by simpa using e))
  refine ⟨b, off, rfl, Nat.lt_of_lt_of_le hlt hg.size, fun i hi => ?_⟩
  obtain ⟨c0, c1⟩ := hc i hi
  exact ⟨(World.cell?_of_block (w := w) (a := ⟨b, off + i * 2, none⟩) e).trans c0, (World.cell?_of_block (w := w) (a := ⟨b, off + i * 2 + 1, none⟩) e).trans c1⟩
theorem bat_below {w w' : World} {a : Option Addr} {n : Nat} {z : Nat → Int} {B : Nat} (h : Cur.BAt w a n z) (hb : Below B w w') (hB : w.heap.size ≤ B) : Cur.BAt w' a n z := fun hp => by
  obtain ⟨b, off, ha, hlt, hc⟩ := h hp
  exact ⟨b, off, ha, Nat.lt_of_lt_of_le hlt hb.size, fun i hi => ⟨(hb.cell (p := ⟨b, off + i, none⟩) (Nat.lt_of_lt_of_le hlt hB)).trans (hc i hi).1, (hc i hi).2⟩⟩
theorem cu_new (w : World) (t : TypeId) (a : Option Addr) (n cap : Nat) : Cur.Cu w (w.alloc (.cells #[.slice a n cap, .int .i64 0, .int .u64 0] t)) w.heap.size a n cap 0 := by
  refine ⟨⟨0, 0, ?_, ?_, ?_, Nat.le_refl _⟩, fun o => by simp, by simp, Nat.le_refl _, (Below.refl _ _).alloc (Nat.le_refl _) _⟩
  all_goals rw [World.cell?_alloc_new]; rfl
/-- What is drawn. -/
def SendDrawn (w : World) (e : Ending) (w' : World) : Prop :=
  ∃ (ep fa : Int) (a : Option Addr) (l : List D) (cc : Nat) (id now : Int), e = .returned (.tuple #[.agg #[.int .i64 ep, .int .i64 fa, .slice a l.length cc], .int .i64 id, .int .i64 now]) ∧ l.length ≤ 41 ∧ l.length ≤ cc ∧ LAt w' a l ∧ Below w.heap.size w w'
theorem send_drawn {w w1 : World} {c k n cap R : Nat} {ca : Option Addr} {w0 : World} (hw0 : Below w.heap.size w w0) (hR : R < c) (hRw : w.heap.size ≤ R) (hz : w.heap.size ≤ w0.heap.size) {ep fa id now : Int} {a : Option Addr} {l : List D} {cc : Nat} (h1 : l.length ≤ 41) (h2 : l.length ≤ cc) (h3 : LAt w1 a l) (h4 : Cur.Cu w0 w1 c ca n cap k) (h5 : ∀ b o, a = some ⟨b, o, none⟩ → c < b) :
    SendDrawn w (.returned (.tuple #[.agg #[.int .i64 ep, .int .i64 fa, .slice a l.length cc], .int .i64 id, .int .i64 now])) (((w1.setCell ⟨R, 0, none⟩ (.int .i64 ep)).setCell ⟨R, 1, none⟩ (.int .i64 fa)).setCell ⟨R, 2, none⟩ (.slice a l.length cc)) := by
  refine ⟨ep, fa, a, l, cc, id, now, rfl, h1, h2, ?_, ?_⟩
  · exact lat_gb h3 (gb_set (gb_set (gb_set (gb_refl w1 (some R)) _ _) _ _) _ _) (fun b o e => by have := h5 b o e; omega)
  · exact (((hw0.trans (h4.bel.mono hz)).setCell (p := ⟨R, 0, none⟩) hRw _).setCell (p := ⟨R, 1, none⟩) hRw _).setCell (p := ⟨R, 2, none⟩) hRw _

set_option maxRecDepth 10000 in
set_option maxHeartbeats 4000000 in
theorem drawSend_any (a : Option Addr) (n cap : Nat) (z : Nat → Int) (w : World) (hz : Cur.BAt w a n z) (hn : n ≤ 1048576) :
    Calls Try.prog 4 #[.slice a n cap] w (SendDrawn w) := by
  obtain ⟨w0, hw0⟩ : ∃ v, v = w.alloc (.cells #[.int .i64 0, .int .i64 0, .slice none 0 0] 25) := ⟨_, rfl⟩
  have hb0 : Below w.heap.size w w0 := by rw [hw0]; exact bel1 w _
  have hs0 : w0.heap.size = w.heap.size + 1 := by rw [hw0]; simp
  have hR := rb_new w
  rw [← hw0] at hR
  have hz0 := bat_below hz hb0 (Nat.le_refl _)
  have HP := hide (fun (m : Nat) (hm : 1 ≤ m ∧ m ≤ 200) k (hk : k ≤ 1000) w' h => Cur.pick_any w0 w' (w.heap.size + 1) a n cap k m z hz0 hn (by omega) h hm)
  have HL := hide (fun w' h => lane_any w0 w' (w.heap.size + 1) a n cap z hz0 hn h)
  have C0 : Hid (Cur.Cu w0 (w0.alloc (.cells #[.slice a n cap, .int .i64 0, .int .u64 0] 41)) (w.heap.size + 1) a n cap 0) := by
    have := cu_new w0 41 a n cap
    rw [hs0] at this
    exact this
  have HW := hide hw0
  have HR := hide hR
  have HB0 := hide hb0
  clear hz hz0 hw0 hR hb0
  go_enter Try.func4, Try.ntmps4
  go_wp2_with fail
  rw [← unhide HW]
  refine (unhide HL _ (unhide C0)).mono ?_
  rintro e w1 ⟨ep, fa, aa, l, cc, rfl, h1, h2, h3, h4, h5⟩
  have L1 := hide h3
  have C1 := hide h4
  have N1 := hide h5
  clear h3 h4 h5 C0 HW
  go_wp2_with fail
  refine (unhide HP 60 (by omega) 200 (by omega) _ (unhide C1)).mono ?_
  rintro e w2 ⟨r2, rfl, hr2, hcu, hg⟩
  have L2 := hide (lat_gb (unhide L1) hg (fun b o e => by have := unhide N1 b o e; omega))
  have C2 := hide hcu
  clear hcu hg L1 C1
  go_wp2_with fail
  refine (unhide HP 90 (by omega) 201 (by omega) _ (unhide C2)).mono ?_
  rintro e w3 ⟨r3, rfl, hr3, hcu, hg⟩
  have L3 := hide (lat_gb (unhide L2) hg (fun b o e => by have := unhide N1 b o e; omega))
  have C3 := hide hcu
  clear hcu hg L2 C2
  have hbR := (unhide C3).bel
  rw [hs0] at hbR
  obtain ⟨⟨y0, y1, y2⟩, fz, zR⟩ := unhide HR
  have x0 := (hbR.cell (p := ⟨w.heap.size, 0, none⟩) (Nat.lt_succ_self _)).trans y0
  have x1 := (hbR.cell (p := ⟨w.heap.size, 1, none⟩) (Nat.lt_succ_self _)).trans y1
  have x2 := (hbR.cell (p := ⟨w.heap.size, 2, none⟩) (Nat.lt_succ_self _)).trans y2
  have fR := fun o => (hbR.frozen (p := ⟨w.heap.size, o, none⟩) (Nat.lt_succ_self _)).trans (fz o)
  have zR3 : w.heap.size < w3.heap.size := by have := hbR.size; omega
  have HD := hide (fun id now => send_drawn (id := id) (now := now) (ep := ep) (fa := fa) (unhide HB0) (Nat.lt_succ_self w.heap.size) (Nat.le_refl _) (by omega) h1 h2 (unhide L3) (unhide C3) (unhide N1))
  clear hbR y0 y1 y2 fz
  go_wp2
  refine bodyPost_ret (v := .tuple #[.agg #[.int .i64 ep, .int .i64 fa, .slice aa l.length cc], .int .i64 ((r2 : Int) - 1), .int .i64 ((r3 : Int) - 1)]) (by simp [results, Try.results4, go_sem, x0, x1, x2]) rfl (unhide HD _ _)
end Lanes
end Go.Proofs.Ytfbfnoofapgneaa
