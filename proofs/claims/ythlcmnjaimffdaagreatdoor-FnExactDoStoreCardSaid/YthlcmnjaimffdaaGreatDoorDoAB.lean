/-
  The model's l2Do: its boxes; the commands that change one item, and the plain ones.
-/
import Derived.Test.YthlcmnjaimffdaaGreatDoorWriteZ
namespace Go.Proofs.YthlcmnjaimffdaaGreatDoor
namespace Rw
open Go.RowKit Base GoodKey Items Store Own
set_option linter.unusedVariables false

/-- What l2Do leaves: the items in a row of the call's own. -/
def DEnd (O : Shelf.Out) (lim : Int) (w : World) (e : Ending) (w' : World) : Prop :=
  ∃ a cap, e = .returned (.tuple #[.agg #[.int .i64 lim, .int .i64 O.nx, .slice a O.its.length cap], .string O.ans, .int .i64 (O.lost : Int)]) ∧ Row w' w.heap.size (.slice a O.its.length cap) O.its ∧ Below w.heap.size w w'
section
variable {w w' : World} {H : Nat} {lim nx : Int} {v : Value} {nm : ByteArray} {kv : Value} {f x n : Int} {dt : ByteArray} {q : Bool}
/-- The three stores of a store into its box. -/
theorem Bw.put3 (h : Bw w H lim nx v nm kv f x n dt q) (l' n' : Int) (u : Value) : Bw (((w.setCell ⟨H, 0, none⟩ (.int .i64 l')).setCell ⟨H, 1, none⟩ (.int .i64 n')).setCell ⟨H, 2, none⟩ u) H l' n' u nm kv f x n dt q := by
  obtain ⟨⟨s0, s1, s2⟩, ⟨i0, i1, i2, i3, i4, i5, i6⟩, ⟨y0, y1, y2⟩, f0, f2, z⟩ := h
  refine ⟨⟨?_, ?_, ?_⟩, ⟨?_, ?_, ?_, ?_, ?_, ?_, ?_⟩, ⟨?_, ?_, ?_⟩, fun o => ?_, fun o => ?_, by simpa [World.setCell] using z⟩
  all_goals go_simp
end
theorem Row.put3 {w : World} {B H : Nat} {a : Option Addr} {n cap : Nat} {its : List Itm} (h : Row w B (.slice a n cap) its) (hB : H < B) (l' n' : Int) (u : Value) : Row (((w.setCell ⟨H, 0, none⟩ (.int .i64 l')).setCell ⟨H, 1, none⟩ (.int .i64 n')).setCell ⟨H, 2, none⟩ u) B (.slice a n cap) its :=
  ownsRow_setCell_below (ownsRow_setCell_below (ownsRow_setCell_below h (a := ⟨H, 0, none⟩) hB _) (a := ⟨H, 1, none⟩) hB _) (a := ⟨H, 2, none⟩) hB _
/-- What stands behind l2Drop: the store's box bears the items that are kept. -/
structure Dr (w w3 : World) (lim nx : Int) (a : Option Addr) (cap : Nat) (its : List Itm) (nm : ByteArray) (kv : Value) (f x n : Int) (dt : ByteArray) (q : Bool) : Prop where
  box : Bw w3 w.heap.size lim nx (.slice a its.length cap) nm kv f x n dt q
  row : Row w3 (w.heap.size + 3) (.slice a its.length cap) its
  bel : Below w.heap.size w w3

set_option maxRecDepth 10000 in
set_option maxHeartbeats 8000000 in
theorem do_write (lim nx : Int) (b cap B : Nat) (its : List Itm) (now : Int) (nm : ByteArray) (kb ko kc nk : Nat) (f x n : Int) (dt : ByteArray) (q : Bool) (w : World)
    (hr : Row w B (.slice (some ⟨b, 0, none⟩) its.length cap) its) (hl : its.length ≤ 60) (hits : ∀ y ∈ its, Shelf.Okx y) (hlim : 0 ≤ lim ∧ lim ≤ 10000) (hnx : 1 ≤ nx ∧ nx ≤ 1000000000) (key : ByteArray) (hkb : kb < w.heap.size) (hkc : w.cell? ⟨kb, ko, none⟩ = some (.string key)) (hnk : 0 < nk) (hkey : key.size ≤ 30) (hdt : dt.size ≤ 100)
    (hnow : 0 ≤ now ∧ now ≤ 1000000000) (hx : 0 ≤ x ∧ x ≤ 1000000000) (ks : List ByteArray) (hks : ks.getD 0 ByteArray.empty = key) (hK : 2 ≤ Kind.kindN nm.toList ∧ Kind.kindN nm.toList ≤ 6) :
    Calls Tryz.prog 42 #[.agg #[.int .i64 lim, .int .i64 nx, .slice (some ⟨b, 0, none⟩) its.length cap], .int .i64 now, .agg #[.string nm, .slice (some ⟨kb, ko, none⟩) nk kc, .int .i64 f, .int .i64 x, .int .i64 n, .string dt, .bool q]] w (DEnd (Shelf.ansO lim nx (keepB its now) now nm.toList ks f x n dt) lim w) := by
  have hkd := fun w' => Kind.spec_any nm w'
  have HDR := hide (fun w' (h : Row w' B (.slice (some ⟨b, 0, none⟩) its.length cap) its) => drop_some lim nx b 0 cap its now w' h.lt.1 (h.at rfl) (by omega))
  have HR := hide hr
  have hkl : (keepB its now).length ≤ 60 := Nat.le_trans (List.length_filter_le _ _) hl
  have HKI : Hid (∀ y ∈ keepB its now, Shelf.Okx y) := fun y hy => hits y (List.mem_filter.1 hy).1
  clear hr hits
  have HWR := hide (fun a' c' w' (hr' : Row w' (w.heap.size + 3) (.slice a' (keepB its now).length c') (keepB its now)) (hB' : w.heap.size + 3 ≤ w'.heap.size) (hb' : Below w.heap.size w w') => l2Write_any lim nx a' c' (w.heap.size + 3) (keepB its now) now nm kb ko kc nk key f x n dt q w' hr' hB' (Nat.lt_of_lt_of_le hkb hb'.size) ((hb'.cell (p := ⟨kb, ko, none⟩) hkb).trans hkc) hnk hkl (unhide HKI) hkey hdt hlim hnx hnow hx ks hks hK)
  obtain ⟨PO, hPO⟩ : ∃ v, v = Shelf.ansO lim nx (keepB its now) now nm.toList ks f x n dt := ⟨_, rfl⟩
  rw [← hPO]
  rw [← hPO] at HWR
  have HPO := hide hPO
  clear hPO hkc hnow hx hks
  generalize hKN : Kind.kindN nm.toList = K at hkd hK
  clear hKN
  have k1 : decide (K = 1) = false := decide_eq_false (by omega)
  have k7 : decide (K = 7) = false := decide_eq_false (by omega)
  have k1' : (K == 1) = false := by rw [beq_eq_false_iff_ne]; omega
  have k7' : (K == 7) = false := by rw [beq_eq_false_iff_ne]; omega
  generalize keepB its now = kp at HDR hkl HKI HWR HPO
  have HKD := hide hkd
  clear hkd
  go_enter Tryz.func42, Tryz.ntmps42
  go_wp2_with fail
  refine (unhide HDR _ ((unhide HR).below (bel3 w _ _ _) (Nat.le_refl _))).mono ?_
  rintro e w2 ⟨a2, c2, rfl, hr2, hb2⟩
  simp only [World.size_alloc] at hb2 hr2
  have X2 := hide ((bw_new w lim nx (.slice (some ⟨b, 0, none⟩) its.length cap) nm (.slice (some ⟨kb, ko, none⟩) nk kc) f x n dt q).below hb2 (by omega))
  have B2 := hide ((bel3 w _ _ _).trans (hb2.mono (by omega)))
  have R2 : Hid (Row w2 (w.heap.size + 3) (.slice a2 kp.length c2) kp) := hr2
  have z2 : w.heap.size + 3 ≤ w2.heap.size := (unhide X2).2.2.2.2.2
  clear hb2 hr2
  have X3 := hide ((unhide X2).put3 lim nx (.slice a2 kp.length c2))
  have R3 := hide ((unhide R2).put3 (H := w.heap.size) (by omega) lim nx (.slice a2 kp.length c2))
  have B3 := hide ((((unhide B2).setCell (p := ⟨w.heap.size, 0, none⟩) (Nat.le_refl _) (.int .i64 lim)).setCell (p := ⟨w.heap.size, 1, none⟩) (Nat.le_refl _) (.int .i64 nx)).setCell (p := ⟨w.heap.size, 2, none⟩) (Nat.le_refl _) (.slice a2 kp.length c2))
  obtain ⟨⟨a0, a1, a2'⟩, ⟨i0, i1, i2, i3, i4, i5, i6⟩, ⟨y0, y1, y2⟩, f0, f2, -⟩ := unhide X2
  go_upto_region 2 with fail
  generalize ((w2.setCell ⟨w.heap.size, 0, none⟩ (.int .i64 lim)).setCell ⟨w.heap.size, 1, none⟩ (.int .i64 nx)).setCell ⟨w.heap.size, 2, none⟩ (.slice a2 kp.length c2) = w3 at X3 R3 B3 ⊢
  clear a0 a1 a2' i0 i1 i2 i3 i4 i5 i6 y0 y1 y2 f0 f2 X2 R2 B2 z2
  have z3 := (unhide X3).2.2.2.2.2
  obtain ⟨⟨a0, a1, a2'⟩, ⟨i0, i1, i2, i3, i4, i5, i6⟩, ⟨y0, y1, y2⟩, f0, f2, -⟩ := unhide X3
  go_wp2_with fail
  refine (unhide HKD _).mono ?_
  rintro e w3' ⟨rfl, rfl⟩
  go_wp2_with fail
  refine (unhide HWR _ _ _ (unhide R3) z3 (unhide B3)).mono ?_
  rintro e w4 ⟨a4, c4, rfl, hr4, -, hb4⟩
  have X4 := hide ((unhide X3).below hb4 z3)
  have R4 := hide hr4
  have B4 := hide ((unhide B3).trans (hb4.mono (by omega)))
  clear hr4 hb4 a0 a1 a2' i0 i1 i2 i3 i4 i5 i6 y0 y1 y2 f0 f2
  obtain ⟨-, -, ⟨y0, y1, y2⟩, f0, f2, -⟩ := unhide X4
  go_wp2
  refine bodyPost_ret (v := .tuple #[.agg #[.int .i64 lim, .int .i64 PO.nx, .slice a4 PO.its.length c4], .string PO.ans, .int .i64 (PO.lost : Int)]) (by simp [results, Tryz.results42, go_sem, y0, y1, y2]) rfl ⟨a4, c4, rfl, ?_, ?_⟩
  · refine Row.le (B := w.heap.size + 3) ?_ (by omega)
    repeat (refine ownsRow_setCell_below ?_ (by first | (simp; done) | (simp; omega)) _)
    exact unhide R4
  · repeat (refine Below.setCell ?_ (by first | (simp; done) | (simp; omega)) _)
    exact unhide B4
end Rw
end Go.Proofs.YthlcmnjaimffdaaGreatDoor
/-
  The model's l2Do: the plain commands.
-/
namespace Go.Proofs.YthlcmnjaimffdaaGreatDoor
namespace Rw
open Go.RowKit Base GoodKey Items Store Own
set_option linter.unusedVariables false

set_option maxRecDepth 10000 in
set_option maxHeartbeats 8000000 in
theorem do_flush (lim nx : Int) (b cap B : Nat) (its : List Itm) (now : Int) (nm : ByteArray) (kb ko kc nk : Nat) (f x n : Int) (dt : ByteArray) (q : Bool) (w : World)
    (hr : Row w B (.slice (some ⟨b, 0, none⟩) its.length cap) its) (hl : its.length ≤ 60) (hits : ∀ y ∈ its, Shelf.Okx y) (hlim : 0 ≤ lim ∧ lim ≤ 10000) (hnx : 1 ≤ nx ∧ nx ≤ 1000000000) (hnm : nm.toList = [102, 108, 117, 115, 104, 95, 97, 108, 108]) :
    Calls Tryz.prog 42 #[.agg #[.int .i64 lim, .int .i64 nx, .slice (some ⟨b, 0, none⟩) its.length cap], .int .i64 now, .agg #[.string nm, .slice (some ⟨kb, ko, none⟩) nk kc, .int .i64 f, .int .i64 x, .int .i64 n, .string dt, .bool q]] w (DEnd (⟨([] : List Itm), nx, 0, Shelf.okT⟩) lim w) := by
  have hkd := fun w' => Kind.spec_any nm w'
  have HDR := hide (fun w' (h : Row w' B (.slice (some ⟨b, 0, none⟩) its.length cap) its) => drop_some lim nx b 0 cap its now w' h.lt.1 (h.at rfl) (by omega))
  have HR := hide hr
  have hkl : (keepB its now).length ≤ 60 := Nat.le_trans (List.length_filter_le _ _) hl
  have HKI : Hid (∀ y ∈ keepB its now, Shelf.Okx y) := fun y hy => hits y (List.mem_filter.1 hy).1
  clear hr hits
  have hk7 : Kind.kindN nm.toList = 7 := by rw [hnm]; decide
  rw [hk7] at hkd
  have sf : (nm.toList == [102, 108, 117, 115, 104, 95, 97, 108, 108]) = true := by rw [hnm]; decide
  have sv : (nm.toList == [118, 101, 114, 115, 105, 111, 110]) = false := by rw [hnm]; decide
  obtain ⟨E, hE⟩ : ∃ v, v = ([] : List Itm) := ⟨_, rfl⟩
  rw [← hE]
  have HEE := hide hE
  clear hE hk7
  generalize keepB its now = kp at HDR hkl HKI 
  have HKD := hide hkd
  clear hkd
  go_enter Tryz.func42, Tryz.ntmps42
  go_wp2_with fail
  refine (unhide HDR _ ((unhide HR).below (bel3 w _ _ _) (Nat.le_refl _))).mono ?_
  rintro e w2 ⟨a2, c2, rfl, hr2, hb2⟩
  simp only [World.size_alloc] at hb2 hr2
  have X2 := hide ((bw_new w lim nx (.slice (some ⟨b, 0, none⟩) its.length cap) nm (.slice (some ⟨kb, ko, none⟩) nk kc) f x n dt q).below hb2 (by omega))
  have B2 := hide ((bel3 w _ _ _).trans (hb2.mono (by omega)))
  have R2 : Hid (Row w2 (w.heap.size + 3) (.slice a2 kp.length c2) kp) := hr2
  have z2 : w.heap.size + 3 ≤ w2.heap.size := (unhide X2).2.2.2.2.2
  clear hb2 hr2
  have X3 := hide ((unhide X2).put3 lim nx (.slice a2 kp.length c2))
  have R3 := hide ((unhide R2).put3 (H := w.heap.size) (by omega) lim nx (.slice a2 kp.length c2))
  have B3 := hide ((((unhide B2).setCell (p := ⟨w.heap.size, 0, none⟩) (Nat.le_refl _) (.int .i64 lim)).setCell (p := ⟨w.heap.size, 1, none⟩) (Nat.le_refl _) (.int .i64 nx)).setCell (p := ⟨w.heap.size, 2, none⟩) (Nat.le_refl _) (.slice a2 kp.length c2))
  obtain ⟨⟨a0, a1, a2'⟩, ⟨i0, i1, i2, i3, i4, i5, i6⟩, ⟨y0, y1, y2⟩, f0, f2, -⟩ := unhide X2
  go_upto_region 2 with fail
  generalize ((w2.setCell ⟨w.heap.size, 0, none⟩ (.int .i64 lim)).setCell ⟨w.heap.size, 1, none⟩ (.int .i64 nx)).setCell ⟨w.heap.size, 2, none⟩ (.slice a2 kp.length c2) = w3 at X3 R3 B3 ⊢
  clear a0 a1 a2' i0 i1 i2 i3 i4 i5 i6 y0 y1 y2 f0 f2 X2 R2 B2 z2
  have z3 := (unhide X3).2.2.2.2.2
  obtain ⟨⟨a0, a1, a2'⟩, ⟨i0, i1, i2, i3, i4, i5, i6⟩, ⟨y0, y1, y2⟩, f0, f2, -⟩ := unhide X3
  go_wp2_with fail
  refine (unhide HKD _).mono ?_
  rintro e w3' ⟨rfl, rfl⟩
  go_wp2
  refine bodyPost_ret (v := .tuple #[.agg #[.int .i64 lim, .int .i64 nx, .slice none 0 0], .string Shelf.okT, .int .i64 0]) (by simp [results, Tryz.results42, go_sem, y0, y1, y2, Shelf.okT]) rfl ⟨none, 0, by rw [unhide HEE]; rfl, ?_, ?_⟩
  · rw [unhide HEE]
    exact World.ownsRow_nil _ _ _ _
  · repeat (refine Below.setCell ?_ (by first | (simp; done) | (simp; omega)) _)
    exact unhide B3

set_option maxRecDepth 10000 in
set_option maxHeartbeats 8000000 in
theorem do_version (lim nx : Int) (b cap B : Nat) (its : List Itm) (now : Int) (nm : ByteArray) (kb ko kc nk : Nat) (f x n : Int) (dt : ByteArray) (q : Bool) (w : World)
    (hr : Row w B (.slice (some ⟨b, 0, none⟩) its.length cap) its) (hl : its.length ≤ 60) (hits : ∀ y ∈ its, Shelf.Okx y) (hlim : 0 ≤ lim ∧ lim ≤ 10000) (hnx : 1 ≤ nx ∧ nx ≤ 1000000000) (hnm : nm.toList = [118, 101, 114, 115, 105, 111, 110]) :
    Calls Tryz.prog 42 #[.agg #[.int .i64 lim, .int .i64 nx, .slice (some ⟨b, 0, none⟩) its.length cap], .int .i64 now, .agg #[.string nm, .slice (some ⟨kb, ko, none⟩) nk kc, .int .i64 f, .int .i64 x, .int .i64 n, .string dt, .bool q]] w (DEnd (⟨keepB its now, nx, 0, Shelf.versionT⟩) lim w) := by
  have hkd := fun w' => Kind.spec_any nm w'
  have HDR := hide (fun w' (h : Row w' B (.slice (some ⟨b, 0, none⟩) its.length cap) its) => drop_some lim nx b 0 cap its now w' h.lt.1 (h.at rfl) (by omega))
  have HR := hide hr
  have hkl : (keepB its now).length ≤ 60 := Nat.le_trans (List.length_filter_le _ _) hl
  have HKI : Hid (∀ y ∈ keepB its now, Shelf.Okx y) := fun y hy => hits y (List.mem_filter.1 hy).1
  clear hr hits
  have hk7 : Kind.kindN nm.toList = 7 := by rw [hnm]; decide
  rw [hk7] at hkd
  have sf : (nm.toList == [102, 108, 117, 115, 104, 95, 97, 108, 108]) = false := by rw [hnm]; decide
  have sv : (nm.toList == [118, 101, 114, 115, 105, 111, 110]) = true := by rw [hnm]; decide
  obtain ⟨E, hE⟩ : ∃ v, v = keepB its now := ⟨_, rfl⟩
  rw [← hE]
  have HEE := hide hE
  clear hE hk7
  generalize keepB its now = kp at HDR hkl HKI HEE
  have HKD := hide hkd
  clear hkd
  go_enter Tryz.func42, Tryz.ntmps42
  go_wp2_with fail
  refine (unhide HDR _ ((unhide HR).below (bel3 w _ _ _) (Nat.le_refl _))).mono ?_
  rintro e w2 ⟨a2, c2, rfl, hr2, hb2⟩
  simp only [World.size_alloc] at hb2 hr2
  have X2 := hide ((bw_new w lim nx (.slice (some ⟨b, 0, none⟩) its.length cap) nm (.slice (some ⟨kb, ko, none⟩) nk kc) f x n dt q).below hb2 (by omega))
  have B2 := hide ((bel3 w _ _ _).trans (hb2.mono (by omega)))
  have R2 : Hid (Row w2 (w.heap.size + 3) (.slice a2 kp.length c2) kp) := hr2
  have z2 : w.heap.size + 3 ≤ w2.heap.size := (unhide X2).2.2.2.2.2
  clear hb2 hr2
  have X3 := hide ((unhide X2).put3 lim nx (.slice a2 kp.length c2))
  have R3 := hide ((unhide R2).put3 (H := w.heap.size) (by omega) lim nx (.slice a2 kp.length c2))
  have B3 := hide ((((unhide B2).setCell (p := ⟨w.heap.size, 0, none⟩) (Nat.le_refl _) (.int .i64 lim)).setCell (p := ⟨w.heap.size, 1, none⟩) (Nat.le_refl _) (.int .i64 nx)).setCell (p := ⟨w.heap.size, 2, none⟩) (Nat.le_refl _) (.slice a2 kp.length c2))
  obtain ⟨⟨a0, a1, a2'⟩, ⟨i0, i1, i2, i3, i4, i5, i6⟩, ⟨y0, y1, y2⟩, f0, f2, -⟩ := unhide X2
  go_upto_region 2 with fail
  generalize ((w2.setCell ⟨w.heap.size, 0, none⟩ (.int .i64 lim)).setCell ⟨w.heap.size, 1, none⟩ (.int .i64 nx)).setCell ⟨w.heap.size, 2, none⟩ (.slice a2 kp.length c2) = w3 at X3 R3 B3 ⊢
  clear a0 a1 a2' i0 i1 i2 i3 i4 i5 i6 y0 y1 y2 f0 f2 X2 R2 B2 z2
  have z3 := (unhide X3).2.2.2.2.2
  obtain ⟨⟨a0, a1, a2'⟩, ⟨i0, i1, i2, i3, i4, i5, i6⟩, ⟨y0, y1, y2⟩, f0, f2, -⟩ := unhide X3
  go_wp2_with fail
  refine (unhide HKD _).mono ?_
  rintro e w3' ⟨rfl, rfl⟩
  go_wp2
  refine bodyPost_ret (v := .tuple #[.agg #[.int .i64 lim, .int .i64 nx, .slice a2 kp.length c2], .string Shelf.versionT, .int .i64 0]) (by simp [results, Tryz.results42, go_sem, y0, y1, y2, Shelf.versionT]) rfl ⟨a2, c2, (by rw [unhide HEE] : Ending.returned (.tuple #[.agg #[.int .i64 lim, .int .i64 nx, .slice a2 kp.length c2], .string Shelf.versionT, .int .i64 0]) = .returned (.tuple #[.agg #[.int .i64 lim, .int .i64 nx, .slice a2 E.length c2], .string Shelf.versionT, .int .i64 0])), ?_, ?_⟩
  · rw [unhide HEE]
    refine Row.le (B := w.heap.size + 3) ?_ (by omega)
    repeat (refine ownsRow_setCell_below ?_ (by first | (simp; done) | (simp; omega)) _)
    exact unhide R3
  · repeat (refine Below.setCell ?_ (by first | (simp; done) | (simp; omega)) _)
    exact unhide B3

set_option maxRecDepth 10000 in
set_option maxHeartbeats 8000000 in
theorem do_quit (lim nx : Int) (b cap B : Nat) (its : List Itm) (now : Int) (nm : ByteArray) (kb ko kc nk : Nat) (f x n : Int) (dt : ByteArray) (q : Bool) (w : World)
    (hr : Row w B (.slice (some ⟨b, 0, none⟩) its.length cap) its) (hl : its.length ≤ 60) (hits : ∀ y ∈ its, Shelf.Okx y) (hlim : 0 ≤ lim ∧ lim ≤ 10000) (hnx : 1 ≤ nx ∧ nx ≤ 1000000000) (hnm : nm.toList = [113, 117, 105, 116]) :
    Calls Tryz.prog 42 #[.agg #[.int .i64 lim, .int .i64 nx, .slice (some ⟨b, 0, none⟩) its.length cap], .int .i64 now, .agg #[.string nm, .slice (some ⟨kb, ko, none⟩) nk kc, .int .i64 f, .int .i64 x, .int .i64 n, .string dt, .bool q]] w (DEnd (⟨keepB its now, nx, 0, ⟨#[]⟩⟩) lim w) := by
  have hkd := fun w' => Kind.spec_any nm w'
  have HDR := hide (fun w' (h : Row w' B (.slice (some ⟨b, 0, none⟩) its.length cap) its) => drop_some lim nx b 0 cap its now w' h.lt.1 (h.at rfl) (by omega))
  have HR := hide hr
  have hkl : (keepB its now).length ≤ 60 := Nat.le_trans (List.length_filter_le _ _) hl
  have HKI : Hid (∀ y ∈ keepB its now, Shelf.Okx y) := fun y hy => hits y (List.mem_filter.1 hy).1
  clear hr hits
  have hk7 : Kind.kindN nm.toList = 7 := by rw [hnm]; decide
  rw [hk7] at hkd
  have sf : (nm.toList == [102, 108, 117, 115, 104, 95, 97, 108, 108]) = false := by rw [hnm]; decide
  have sv : (nm.toList == [118, 101, 114, 115, 105, 111, 110]) = false := by rw [hnm]; decide
  obtain ⟨E, hE⟩ : ∃ v, v = keepB its now := ⟨_, rfl⟩
  rw [← hE]
  have HEE := hide hE
  clear hE hk7
  generalize keepB its now = kp at HDR hkl HKI HEE
  have HKD := hide hkd
  clear hkd
  go_enter Tryz.func42, Tryz.ntmps42
  go_wp2_with fail
  refine (unhide HDR _ ((unhide HR).below (bel3 w _ _ _) (Nat.le_refl _))).mono ?_
  rintro e w2 ⟨a2, c2, rfl, hr2, hb2⟩
  simp only [World.size_alloc] at hb2 hr2
  have X2 := hide ((bw_new w lim nx (.slice (some ⟨b, 0, none⟩) its.length cap) nm (.slice (some ⟨kb, ko, none⟩) nk kc) f x n dt q).below hb2 (by omega))
  have B2 := hide ((bel3 w _ _ _).trans (hb2.mono (by omega)))
  have R2 : Hid (Row w2 (w.heap.size + 3) (.slice a2 kp.length c2) kp) := hr2
  have z2 : w.heap.size + 3 ≤ w2.heap.size := (unhide X2).2.2.2.2.2
  clear hb2 hr2
  have X3 := hide ((unhide X2).put3 lim nx (.slice a2 kp.length c2))
  have R3 := hide ((unhide R2).put3 (H := w.heap.size) (by omega) lim nx (.slice a2 kp.length c2))
  have B3 := hide ((((unhide B2).setCell (p := ⟨w.heap.size, 0, none⟩) (Nat.le_refl _) (.int .i64 lim)).setCell (p := ⟨w.heap.size, 1, none⟩) (Nat.le_refl _) (.int .i64 nx)).setCell (p := ⟨w.heap.size, 2, none⟩) (Nat.le_refl _) (.slice a2 kp.length c2))
  obtain ⟨⟨a0, a1, a2'⟩, ⟨i0, i1, i2, i3, i4, i5, i6⟩, ⟨y0, y1, y2⟩, f0, f2, -⟩ := unhide X2
  go_upto_region 2 with fail
  generalize ((w2.setCell ⟨w.heap.size, 0, none⟩ (.int .i64 lim)).setCell ⟨w.heap.size, 1, none⟩ (.int .i64 nx)).setCell ⟨w.heap.size, 2, none⟩ (.slice a2 kp.length c2) = w3 at X3 R3 B3 ⊢
  clear a0 a1 a2' i0 i1 i2 i3 i4 i5 i6 y0 y1 y2 f0 f2 X2 R2 B2 z2
  have z3 := (unhide X3).2.2.2.2.2
  obtain ⟨⟨a0, a1, a2'⟩, ⟨i0, i1, i2, i3, i4, i5, i6⟩, ⟨y0, y1, y2⟩, f0, f2, -⟩ := unhide X3
  go_wp2_with fail
  refine (unhide HKD _).mono ?_
  rintro e w3' ⟨rfl, rfl⟩
  go_wp2
  refine bodyPost_ret (v := .tuple #[.agg #[.int .i64 lim, .int .i64 nx, .slice a2 kp.length c2], .string ⟨#[]⟩, .int .i64 0]) (by simp [results, Tryz.results42, go_sem, y0, y1, y2]) rfl ⟨a2, c2, (by rw [unhide HEE] : Ending.returned (.tuple #[.agg #[.int .i64 lim, .int .i64 nx, .slice a2 kp.length c2], .string ⟨#[]⟩, .int .i64 0]) = .returned (.tuple #[.agg #[.int .i64 lim, .int .i64 nx, .slice a2 E.length c2], .string ⟨#[]⟩, .int .i64 0])), ?_, ?_⟩
  · rw [unhide HEE]
    refine Row.le (B := w.heap.size + 3) ?_ (by omega)
    repeat (refine ownsRow_setCell_below ?_ (by first | (simp; done) | (simp; omega)) _)
    exact unhide R3
  · repeat (refine Below.setCell ?_ (by first | (simp; done) | (simp; omega)) _)
    exact unhide B3
end Rw
end Go.Proofs.YthlcmnjaimffdaaGreatDoor
