/-
  The model's l2Do and l2Answer where there is no key (written by a program of mine).
-/
import Derived.Test.YtkdcofmpbmiloaaGreatDoorY12
namespace Go.Proofs.YtkdcofmpbmiloaaGreatDoor
namespace Rw
open Go.RowKit Base GoodKey Items Store Own
set_option linter.unusedVariables false

set_option maxRecDepth 10000 in
set_option maxHeartbeats 8000000 in
theorem do_flush_nil (lim nx : Int) (b cap B : Nat) (its : List Itm) (now : Int) (nm : ByteArray) (ka : Option Addr) (kc : Nat) (f x n : Int) (dt : ByteArray) (q : Bool) (w : World)
    (hr : Row w B (.slice (some ⟨b, 0, none⟩) its.length cap) its) (hl : its.length ≤ 60) (hits : ∀ y ∈ its, Shelf.Okx y) (hlim : 0 ≤ lim ∧ lim ≤ 10000) (hnx : 1 ≤ nx ∧ nx ≤ 1000000000) (hnm : nm.toList = [102, 108, 117, 115, 104, 95, 97, 108, 108]) :
    Calls Tryz.prog 54 #[.agg #[.int .i64 lim, .int .i64 nx, .slice (some ⟨b, 0, none⟩) its.length cap], .int .i64 now, .agg #[.string nm, .slice ka 0 kc, .int .i64 f, .int .i64 x, .int .i64 n, .string dt, .bool q]] w (DEnd (⟨([] : List Itm), nx, 0, Shelf.okT⟩) lim w) := by
  have hkd := fun w' => Kind.spec_any nm w'
  have HDR := hide (fun w' (h : Row w' B (.slice (some ⟨b, 0, none⟩) its.length cap) its) => drop_some lim nx b 0 cap its now w' h.lt.1 (h.at rfl) (by omega))
  have HR := hide hr
  have hkl : (keepB its now).length ≤ 60 := Nat.le_trans (List.length_filter_le _ _) hl
  have HKI : Hid (∀ y ∈ keepB its now, Shelf.Okx y) := fun y hy => hits y (List.mem_filter.1 hy).1
  clear hr hits
  have hk7 : Kind.kindN nm.toList = 7 := by rw [hnm]; decide
  rw [hk7] at hkd
  have sf : (nm.toList == [102, 108, 117, 115, 104, 95, 97, 108, 108]) = true := by rw [hnm]; decide
  have sv : (nm.toList == [118, 101, 114, 115, 105, 111, 110]) = false := by rw [hnm]; decide
  obtain ⟨E, hE⟩ : ∃ v, v = ([] : List Itm) := ⟨_, rfl⟩
  rw [← hE]
  have HEE := hide hE
  clear hE hk7
  generalize keepB its now = kp at HDR hkl HKI 
  have HKD := hide hkd
  clear hkd
  go_enter Tryz.func54, Tryz.ntmps54
  go_wp2_with fail
  refine (unhide HDR _ ((unhide HR).below (bel3 w _ _ _) (Nat.le_refl _))).mono ?_
  rintro e w2 ⟨a2, c2, rfl, hr2, hb2⟩
  simp only [World.size_alloc] at hb2 hr2
  have X2 := hide ((bw_new w lim nx (.slice (some ⟨b, 0, none⟩) its.length cap) nm (.slice ka 0 kc) f x n dt q).below hb2 (by omega))
  have B2 := hide ((bel3 w _ _ _).trans (hb2.mono (by omega)))
  have R2 : Hid (Row w2 (w.heap.size + 3) (.slice a2 kp.length c2) kp) := hr2
  have z2 : w.heap.size + 3 ≤ w2.heap.size := (unhide X2).2.2.2.2.2
  clear hb2 hr2
  have X3 := hide ((unhide X2).put3 lim nx (.slice a2 kp.length c2))
  have R3 := hide ((unhide R2).put3 (H := w.heap.size) (by omega) lim nx (.slice a2 kp.length c2))
  have B3 := hide ((((unhide B2).setCell (p := ⟨w.heap.size, 0, none⟩) (Nat.le_refl _) (.int .i64 lim)).setCell (p := ⟨w.heap.size, 1, none⟩) (Nat.le_refl _) (.int .i64 nx)).setCell (p := ⟨w.heap.size, 2, none⟩) (Nat.le_refl _) (.slice a2 kp.length c2))
  obtain ⟨⟨a0, a1, a2'⟩, ⟨i0, i1, i2, i3, i4, i5, i6⟩, ⟨y0, y1, y2⟩, f0, f2, -⟩ := unhide X2
  go_upto_region 2 with fail
  generalize ((w2.setCell ⟨w.heap.size, 0, none⟩ (.int .i64 lim)).setCell ⟨w.heap.size, 1, none⟩ (.int .i64 nx)).setCell ⟨w.heap.size, 2, none⟩ (.slice a2 kp.length c2) = w3 at X3 R3 B3 ⊢
  clear a0 a1 a2' i0 i1 i2 i3 i4 i5 i6 y0 y1 y2 f0 f2 X2 R2 B2 z2
  have z3 := (unhide X3).2.2.2.2.2
  obtain ⟨⟨a0, a1, a2'⟩, ⟨i0, i1, i2, i3, i4, i5, i6⟩, ⟨y0, y1, y2⟩, f0, f2, -⟩ := unhide X3
  go_wp2_with fail
  refine (unhide HKD _).mono ?_
  rintro e w3' ⟨rfl, rfl⟩
  go_wp2
  refine bodyPost_ret (v := .tuple #[.agg #[.int .i64 lim, .int .i64 nx, .slice none 0 0], .string Shelf.okT, .int .i64 0]) (by simp [results, Tryz.results54, go_sem, y0, y1, y2, Shelf.okT]) rfl ⟨none, 0, by rw [unhide HEE]; rfl, ?_, ?_⟩
  · rw [unhide HEE]
    exact World.ownsRow_nil _ _ _ _
  · repeat (refine Below.setCell ?_ (by first | (simp; done) | (simp; omega)) _)
    exact unhide B3

set_option maxRecDepth 10000 in
set_option maxHeartbeats 8000000 in
theorem do_version_nil (lim nx : Int) (b cap B : Nat) (its : List Itm) (now : Int) (nm : ByteArray) (ka : Option Addr) (kc : Nat) (f x n : Int) (dt : ByteArray) (q : Bool) (w : World)
    (hr : Row w B (.slice (some ⟨b, 0, none⟩) its.length cap) its) (hl : its.length ≤ 60) (hits : ∀ y ∈ its, Shelf.Okx y) (hlim : 0 ≤ lim ∧ lim ≤ 10000) (hnx : 1 ≤ nx ∧ nx ≤ 1000000000) (hnm : nm.toList = [118, 101, 114, 115, 105, 111, 110]) :
    Calls Tryz.prog 54 #[.agg #[.int .i64 lim, .int .i64 nx, .slice (some ⟨b, 0, none⟩) its.length cap], .int .i64 now, .agg #[.string nm, .slice ka 0 kc, .int .i64 f, .int .i64 x, .int .i64 n, .string dt, .bool q]] w (DEnd (⟨keepB its now, nx, 0, Shelf.versionT⟩) lim w) := by
  have hkd := fun w' => Kind.spec_any nm w'
  have HDR := hide (fun w' (h : Row w' B (.slice (some ⟨b, 0, none⟩) its.length cap) its) => drop_some lim nx b 0 cap its now w' h.lt.1 (h.at rfl) (by omega))
  have HR := hide hr
  have hkl : (keepB its now).length ≤ 60 := Nat.le_trans (List.length_filter_le _ _) hl
  have HKI : Hid (∀ y ∈ keepB its now, Shelf.Okx y) := fun y hy => hits y (List.mem_filter.1 hy).1
  clear hr hits
  have hk7 : Kind.kindN nm.toList = 7 := by rw [hnm]; decide
  rw [hk7] at hkd
  have sf : (nm.toList == [102, 108, 117, 115, 104, 95, 97, 108, 108]) = false := by rw [hnm]; decide
  have sv : (nm.toList == [118, 101, 114, 115, 105, 111, 110]) = true := by rw [hnm]; decide
  obtain ⟨E, hE⟩ : ∃ v, v = keepB its now := ⟨_, rfl⟩
  rw [← hE]
  have HEE := hide hE
  clear hE hk7
  generalize keepB its now = kp at HDR hkl HKI HEE
  have HKD := hide hkd
  clear hkd
  go_enter Tryz.func54, Tryz.ntmps54
  go_wp2_with fail
  refine (unhide HDR _ ((unhide HR).below (bel3 w _ _ _) (Nat.le_refl _))).mono ?_
  rintro e w2 ⟨a2, c2, rfl, hr2, hb2⟩
  simp only [World.size_alloc] at hb2 hr2
  have X2 := hide ((bw_new w lim nx (.slice (some ⟨b, 0, none⟩) its.length cap) nm (.slice ka 0 kc) f x n dt q).below hb2 (by omega))
  have B2 := hide ((bel3 w _ _ _).trans (hb2.mono (by omega)))
  have R2 : Hid (Row w2 (w.heap.size + 3) (.slice a2 kp.length c2) kp) := hr2
  have z2 : w.heap.size + 3 ≤ w2.heap.size := (unhide X2).2.2.2.2.2
  clear hb2 hr2
  have X3 := hide ((unhide X2).put3 lim nx (.slice a2 kp.length c2))
  have R3 := hide ((unhide R2).put3 (H := w.heap.size) (by omega) lim nx (.slice a2 kp.length c2))
  have B3 := hide ((((unhide B2).setCell (p := ⟨w.heap.size, 0, none⟩) (Nat.le_refl _) (.int .i64 lim)).setCell (p := ⟨w.heap.size, 1, none⟩) (Nat.le_refl _) (.int .i64 nx)).setCell (p := ⟨w.heap.size, 2, none⟩) (Nat.le_refl _) (.slice a2 kp.length c2))
  obtain ⟨⟨a0, a1, a2'⟩, ⟨i0, i1, i2, i3, i4, i5, i6⟩, ⟨y0, y1, y2⟩, f0, f2, -⟩ := unhide X2
  go_upto_region 2 with fail
  generalize ((w2.setCell ⟨w.heap.size, 0, none⟩ (.int .i64 lim)).setCell ⟨w.heap.size, 1, none⟩ (.int .i64 nx)).setCell ⟨w.heap.size, 2, none⟩ (.slice a2 kp.length c2) = w3 at X3 R3 B3 ⊢
  clear a0 a1 a2' i0 i1 i2 i3 i4 i5 i6 y0 y1 y2 f0 f2 X2 R2 B2 z2
  have z3 := (unhide X3).2.2.2.2.2
  obtain ⟨⟨a0, a1, a2'⟩, ⟨i0, i1, i2, i3, i4, i5, i6⟩, ⟨y0, y1, y2⟩, f0, f2, -⟩ := unhide X3
  go_wp2_with fail
  refine (unhide HKD _).mono ?_
  rintro e w3' ⟨rfl, rfl⟩
  go_wp2
  refine bodyPost_ret (v := .tuple #[.agg #[.int .i64 lim, .int .i64 nx, .slice a2 kp.length c2], .string Shelf.versionT, .int .i64 0]) (by simp [results, Tryz.results54, go_sem, y0, y1, y2, Shelf.versionT]) rfl ⟨a2, c2, (by rw [unhide HEE] : Ending.returned (.tuple #[.agg #[.int .i64 lim, .int .i64 nx, .slice a2 kp.length c2], .string Shelf.versionT, .int .i64 0]) = .returned (.tuple #[.agg #[.int .i64 lim, .int .i64 nx, .slice a2 E.length c2], .string Shelf.versionT, .int .i64 0])), ?_, ?_⟩
  · rw [unhide HEE]
    refine Row.le (B := w.heap.size + 3) ?_ (by omega)
    repeat (refine ownsRow_setCell_below ?_ (by first | (simp; done) | (simp; omega)) _)
    exact unhide R3
  · repeat (refine Below.setCell ?_ (by first | (simp; done) | (simp; omega)) _)
    exact unhide B3

set_option maxRecDepth 10000 in
set_option maxHeartbeats 8000000 in
theorem do_quit_nil (lim nx : Int) (b cap B : Nat) (its : List Itm) (now : Int) (nm : ByteArray) (ka : Option Addr) (kc : Nat) (f x n : Int) (dt : ByteArray) (q : Bool) (w : World)
    (hr : Row w B (.slice (some ⟨b, 0, none⟩) its.length cap) its) (hl : its.length ≤ 60) (hits : ∀ y ∈ its, Shelf.Okx y) (hlim : 0 ≤ lim ∧ lim ≤ 10000) (hnx : 1 ≤ nx ∧ nx ≤ 1000000000) (hnm : nm.toList = [113, 117, 105, 116]) :
    Calls Tryz.prog 54 #[.agg #[.int .i64 lim, .int .i64 nx, .slice (some ⟨b, 0, none⟩) its.length cap], .int .i64 now, .agg #[.string nm, .slice ka 0 kc, .int .i64 f, .int .i64 x, .int .i64 n, .string dt, .bool q]] w (DEnd (⟨keepB its now, nx, 0, ⟨#[]⟩⟩) lim w) := by
  have hkd := fun w' => Kind.spec_any nm w'
  have HDR := hide (fun w' (h : Row w' B (.slice (some ⟨b, 0, none⟩) its.length cap) its) => drop_some lim nx b 0 cap its now w' h.lt.1 (h.at rfl) (by omega))
  have HR := hide hr
  have hkl : (keepB its now).length ≤ 60 := Nat.le_trans (List.length_filter_le _ _) hl
  have HKI : Hid (∀ y ∈ keepB its now, Shelf.Okx y) := fun y hy => hits y (List.mem_filter.1 hy).1
  clear hr hits
  have hk7 : Kind.kindN nm.toList = 7 := by rw [hnm]; decide
  rw [hk7] at hkd
  have sf : (nm.toList == [102, 108, 117, 115, 104, 95, 97, 108, 108]) = false := by rw [hnm]; decide
  have sv : (nm.toList == [118, 101, 114, 115, 105, 111, 110]) = false := by rw [hnm]; decide
  obtain ⟨E, hE⟩ : ∃ v, v = keepB its now := ⟨_, rfl⟩
  rw [← hE]
  have HEE := hide hE
  clear hE hk7
  generalize keepB its now = kp at HDR hkl HKI HEE
  have HKD := hide hkd
  clear hkd
  go_enter Tryz.func54, Tryz.ntmps54
  go_wp2_with fail
  refine (unhide HDR _ ((unhide HR).below (bel3 w _ _ _) (Nat.le_refl _))).mono ?_
  rintro e w2 ⟨a2, c2, rfl, hr2, hb2⟩
  simp only [World.size_alloc] at hb2 hr2
  have X2 := hide ((bw_new w lim nx (.slice (some ⟨b, 0, none⟩) its.length cap) nm (.slice ka 0 kc) f x n dt q).below hb2 (by omega))
  have B2 := hide ((bel3 w _ _ _).trans (hb2.mono (by omega)))
  have R2 : Hid (Row w2 (w.heap.size + 3) (.slice a2 kp.length c2) kp) := hr2
  have z2 : w.heap.size + 3 ≤ w2.heap.size := (unhide X2).2.2.2.2.2
  clear hb2 hr2
  have X3 := hide ((unhide X2).put3 lim nx (.slice a2 kp.length c2))
  have R3 := hide ((unhide R2).put3 (H := w.heap.size) (by omega) lim nx (.slice a2 kp.length c2))
  have B3 := hide ((((unhide B2).setCell (p := ⟨w.heap.size, 0, none⟩) (Nat.le_refl _) (.int .i64 lim)).setCell (p := ⟨w.heap.size, 1, none⟩) (Nat.le_refl _) (.int .i64 nx)).setCell (p := ⟨w.heap.size, 2, none⟩) (Nat.le_refl _) (.slice a2 kp.length c2))
  obtain ⟨⟨a0, a1, a2'⟩, ⟨i0, i1, i2, i3, i4, i5, i6⟩, ⟨y0, y1, y2⟩, f0, f2, -⟩ := unhide X2
  go_upto_region 2 with fail
  generalize ((w2.setCell ⟨w.heap.size, 0, none⟩ (.int .i64 lim)).setCell ⟨w.heap.size, 1, none⟩ (.int .i64 nx)).setCell ⟨w.heap.size, 2, none⟩ (.slice a2 kp.length c2) = w3 at X3 R3 B3 ⊢
  clear a0 a1 a2' i0 i1 i2 i3 i4 i5 i6 y0 y1 y2 f0 f2 X2 R2 B2 z2
  have z3 := (unhide X3).2.2.2.2.2
  obtain ⟨⟨a0, a1, a2'⟩, ⟨i0, i1, i2, i3, i4, i5, i6⟩, ⟨y0, y1, y2⟩, f0, f2, -⟩ := unhide X3
  go_wp2_with fail
  refine (unhide HKD _).mono ?_
  rintro e w3' ⟨rfl, rfl⟩
  go_wp2
  refine bodyPost_ret (v := .tuple #[.agg #[.int .i64 lim, .int .i64 nx, .slice a2 kp.length c2], .string ⟨#[]⟩, .int .i64 0]) (by simp [results, Tryz.results54, go_sem, y0, y1, y2]) rfl ⟨a2, c2, (by rw [unhide HEE] : Ending.returned (.tuple #[.agg #[.int .i64 lim, .int .i64 nx, .slice a2 kp.length c2], .string ⟨#[]⟩, .int .i64 0]) = .returned (.tuple #[.agg #[.int .i64 lim, .int .i64 nx, .slice a2 E.length c2], .string ⟨#[]⟩, .int .i64 0])), ?_, ?_⟩
  · rw [unhide HEE]
    refine Row.le (B := w.heap.size + 3) ?_ (by omega)
    repeat (refine ownsRow_setCell_below ?_ (by first | (simp; done) | (simp; omega)) _)
    exact unhide R3
  · repeat (refine Below.setCell ?_ (by first | (simp; done) | (simp; omega)) _)
    exact unhide B3

theorem l2Do_nil (lim nx : Int) (b cap B : Nat) (its : List Itm) (now : Int) (nm : ByteArray) (ka : Option Addr) (kc : Nat) (f x n : Int) (dt : ByteArray) (q : Bool) (w : World)
    (hr : Row w B (.slice (some ⟨b, 0, none⟩) its.length cap) its) (hl : its.length ≤ 60) (hits : ∀ y ∈ its, Shelf.Okx y) (hlim : 0 ≤ lim ∧ lim ≤ 10000) (hnx : 1 ≤ nx ∧ nx ≤ 1000000000)
    (h7 : Kind.kindN nm.toList = 7) :
    Calls Tryz.prog 54 #[.agg #[.int .i64 lim, .int .i64 nx, .slice (some ⟨b, 0, none⟩) its.length cap], .int .i64 now, .agg #[.string nm, .slice ka 0 kc, .int .i64 f, .int .i64 x, .int .i64 n, .string dt, .bool q]] w (DEnd (Shelf.ansO lim nx (keepB its now) now nm.toList [] f x n dt) lim w) := by
  rw [ans_seven h7]
  unfold Shelf.plainO
  rcases kind_seven h7 with h | h | h
  · rw [if_pos h]
    exact do_flush_nil lim nx b cap B its now nm ka kc f x n dt q w hr hl hits hlim hnx h
  · rw [if_neg (by rw [h]; decide), if_pos h]
    exact do_version_nil lim nx b cap B its now nm ka kc f x n dt q w hr hl hits hlim hnx h
  · rw [if_neg (by rw [h]; decide), if_neg (by rw [h]; decide)]
    exact do_quit_nil lim nx b cap B its now nm ka kc f x n dt q w hr hl hits hlim hnx h

set_option maxRecDepth 10000 in
set_option maxHeartbeats 4000000 in
theorem l2Answer_nil (lim nx : Int) (b cap B : Nat) (its : List Itm) (now : Int) (nm : ByteArray) (ka : Option Addr) (kc : Nat) (f x n : Int) (dt : ByteArray) (q : Bool) (w : World)
    (hr : Row w B (.slice (some ⟨b, 0, none⟩) its.length cap) its) (hl : its.length ≤ 60) (hits : ∀ y ∈ its, Shelf.Okx y) (hlim : 0 ≤ lim ∧ lim ≤ 10000) (hnx : 1 ≤ nx ∧ nx ≤ 1000000000)
    (h7 : Kind.kindN nm.toList = 7) (O : Shelf.Out) (hO : Shelf.ansO lim nx (keepB its now) now nm.toList [] f x n dt = O) :
    Calls Tryz.prog 23 #[.agg #[.int .i64 lim, .int .i64 nx, .slice (some ⟨b, 0, none⟩) its.length cap], .int .i64 now, .agg #[.string nm, .slice ka 0 kc, .int .i64 f, .int .i64 x, .int .i64 n, .string dt, .bool q]] w (DEnd ⟨O.its, O.nx, O.lost, if q = true then ⟨#[]⟩ else O.ans⟩ lim w) := by
  have HDO := hide (fun w' (hb : Below w.heap.size w w') => l2Do_nil lim nx b cap B its now nm ka kc f x n dt q w' (hr.below hb (Nat.le_refl _)) hl hits hlim hnx h7)
  rw [hO] at HDO
  clear hr hits h7 hlim hnx hl hO
  obtain ⟨Oi, On, Ol, Oa⟩ := O
  dsimp only
  cases q
  · show Calls _ _ _ w (DEnd ⟨Oi, On, Ol, Oa⟩ lim w)
    go_enter Tryz.func23, Tryz.ntmps23
    go_wp2_with fail
    refine (unhide HDO _ (bel3 w _ _ _)).mono ?_
    rintro e w2 ⟨a2, c2, rfl, hr2, hb2⟩
    simp only [World.size_alloc] at hb2 hr2
    have X2 := hide ((bw_new w lim nx (.slice (some ⟨b, 0, none⟩) its.length cap) nm (.slice ka 0 kc) f x n dt _).below hb2 (by omega))
    have B2 := hide ((bel3 w _ _ _).trans (hb2.mono (by omega)))
    have R2 : Hid (Row w2 (w.heap.size + 3) (.slice a2 Oi.length c2) Oi) := hr2
    have z2 : w.heap.size + 3 ≤ w2.heap.size := (unhide X2).2.2.2.2.2
    have q1 : w.heap.size + 1 < w2.heap.size := by omega
    have q2 : w.heap.size + 1 + 1 < w2.heap.size := by omega
    clear hb2 hr2
    dsimp only
    obtain ⟨⟨a0, a1, a2'⟩, ⟨i0, i1, i2, i3, i4, i5, i6⟩, ⟨y0, y1, y2⟩, f0, f2, -⟩ := unhide X2
    go_wp2
    have rr := fun o => (bel1 (((w2.setCell ⟨w.heap.size + 1 + 1, 0, none⟩ (.int .i64 lim)).setCell ⟨w.heap.size + 1 + 1, 1, none⟩ (.int .i64 On)).setCell ⟨w.heap.size + 1 + 1, 2, none⟩ (.slice a2 Oi.length c2)) (.cells #[.int .i64 lim, .int .i64 On, .slice a2 Oi.length c2] 25)).cell (p := ⟨w.heap.size + 1 + 1, o, none⟩) (by simp; omega)
    refine bodyPost_ret (v := .tuple #[.agg #[.int .i64 lim, .int .i64 On, .slice a2 Oi.length c2], .string Oa, .int .i64 (Ol : Int)]) (by simp [results, Tryz.results23, go_sem, rr, y0, y1, y2]; done) rfl ⟨a2, c2, rfl, ?_, ?_⟩
    · refine Row.le (B := w.heap.size + 3) ?_ (by omega)
      repeat (first | (refine ownsRow_setCell_below ?_ (by first | (simp; done) | (simp; omega)) _) | (refine Row.below ?_ (bel1 _ _) (Nat.le_refl _)))
      exact unhide R2
    · repeat (first | (refine Below.setCell ?_ (by first | (simp; done) | (simp; omega)) _) | (refine Below.alloc ?_ (by first | omega | (simp; omega)) _))
      exact unhide B2
  · show Calls _ _ _ w (DEnd ⟨Oi, On, Ol, ⟨#[]⟩⟩ lim w)
    go_enter Tryz.func23, Tryz.ntmps23
    go_wp2_with fail
    refine (unhide HDO _ (bel3 w _ _ _)).mono ?_
    rintro e w2 ⟨a2, c2, rfl, hr2, hb2⟩
    simp only [World.size_alloc] at hb2 hr2
    have X2 := hide ((bw_new w lim nx (.slice (some ⟨b, 0, none⟩) its.length cap) nm (.slice ka 0 kc) f x n dt _).below hb2 (by omega))
    have B2 := hide ((bel3 w _ _ _).trans (hb2.mono (by omega)))
    have R2 : Hid (Row w2 (w.heap.size + 3) (.slice a2 Oi.length c2) Oi) := hr2
    have z2 : w.heap.size + 3 ≤ w2.heap.size := (unhide X2).2.2.2.2.2
    have q1 : w.heap.size + 1 < w2.heap.size := by omega
    have q2 : w.heap.size + 1 + 1 < w2.heap.size := by omega
    clear hb2 hr2
    dsimp only
    obtain ⟨⟨a0, a1, a2'⟩, ⟨i0, i1, i2, i3, i4, i5, i6⟩, ⟨y0, y1, y2⟩, f0, f2, -⟩ := unhide X2
    go_wp2
    have rr := fun o => (bel1 (((w2.setCell ⟨w.heap.size + 1 + 1, 0, none⟩ (.int .i64 lim)).setCell ⟨w.heap.size + 1 + 1, 1, none⟩ (.int .i64 On)).setCell ⟨w.heap.size + 1 + 1, 2, none⟩ (.slice a2 Oi.length c2)) (.cells #[.int .i64 lim, .int .i64 On, .slice a2 Oi.length c2] 25)).cell (p := ⟨w.heap.size + 1 + 1, o, none⟩) (by simp; omega)
    refine bodyPost_ret (v := .tuple #[.agg #[.int .i64 lim, .int .i64 On, .slice a2 Oi.length c2], .string ⟨#[]⟩, .int .i64 (Ol : Int)]) (by simp [results, Tryz.results23, go_sem, rr, y0, y1, y2]; done) rfl ⟨a2, c2, rfl, ?_, ?_⟩
    · refine Row.le (B := w.heap.size + 3) ?_ (by omega)
      repeat (first | (refine ownsRow_setCell_below ?_ (by first | (simp; done) | (simp; omega)) _) | (refine Row.below ?_ (bel1 _ _) (Nat.le_refl _)))
      exact unhide R2
    · repeat (first | (refine Below.setCell ?_ (by first | (simp; done) | (simp; omega)) _) | (refine Below.alloc ?_ (by first | omega | (simp; omega)) _))
      exact unhide B2
end Rw
end Go.Proofs.YtkdcofmpbmiloaaGreatDoor
