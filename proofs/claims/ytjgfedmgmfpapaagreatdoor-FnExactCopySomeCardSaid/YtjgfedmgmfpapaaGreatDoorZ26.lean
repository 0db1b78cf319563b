/-
  The program's (*fleet).move: a key's item goes from its owner on the one ring to its owner on the other.
-/
import Derived.Test.YtjgfedmgmfpapaaGreatDoorZ25
import Derived.Test.YtjgfedmgmfpapaaGreatDoorZ22
import Derived.Test.YtjgfedmgmfpapaaGreatDoorZ21
import Derived.Test.YtjgfedmgmfpapaaGreatDoorZ18
namespace Go.Proofs.YtjgfedmgmfpapaaGreatDoor
namespace Fleet
open Go.RowKit Base Store Items OwnR Keep Clus Marks Plc
open _root_.Go.Proofs.YtjgfedmgmfpapaaGreatDoor.Shelf (FullIs fullP step_refl step_go step_more)
set_option linter.unusedVariables false

theorem eql_place {w : World} {M X : Nat} {f : Fl} (h : FleetAt w M X f) {i k : Nat} (hi : i < f.ps.length) (hk : k < f.ps.length) :
    (binOp .eql 125 (.pointer (some ⟨(f.ps.getD i zeroP).pb, 0, none⟩)) (.pointer (some ⟨(f.ps.getD k zeroP).pb, 0, none⟩))).run Tryz.prog w = .ok (.bool (decide (i = k))) w := by
  obtain ⟨j, hj, hz⟩ := info_place
  by_cases e : i = k
  · subst e
    rw [run_eql_ptr_same w _ Tryz.underlying125 hj]
    simp
  · have hb1 := (h.pl _ (getD_mem hi)).box
    have hb2 := (h.pl _ (getD_mem hk)).box
    have hne : (⟨(f.ps.getD i zeroP).pb, 0, none⟩ : Addr) ≠ ⟨(f.ps.getD k zeroP).pb, 0, none⟩ := by
      intro e2
      simp only [Addr.mk.injEq, and_true] at e2
      have := apart_at h.apart hi hk e (f.ps.getD i zeroP).pb (by rw [← getD_at hi]; exact List.mem_cons_self)
      rw [e2, ← getD_at hk] at this
      exact this List.mem_cons_self
    rw [run_eql_ptr_other w Tryz.underlying125 hj hz hne hb1 hb2]
    simp [e]
/-- One place after its item r has gone. -/
def outP (p : Pc) (S : List Nat) (r : Nat) : Pc := upd p S p.lim p.nx p.lost (p.its.eraseIdx r)
/-- One place after an item has come. -/
def inP (p : Pc) (S : List Nat) (x : Itm) : Pc := upd p S p.lim (tkNx p.nx x) (tkLost p.lim p.lost p.its x) (tkIts p.lim p.its x)
/-- What move makes of the places. -/
def MvTo (i k : Nat) (key : ByteArray) (ps qs : List Pc) : Prop :=
  if i = k then qs = ps else match atN (ps.getD i zeroP).its key with
  | none => qs = ps
  | some r => ∃ S1 S2, qs = (ps.set i (outP (ps.getD i zeroP) S1 r)).set k (inP (ps.getD k zeroP) S2 ((ps.getD i zeroP).its.getD r zero))
/-- How (*fleet).move ends. -/
def MvEnd (M X : Nat) (f : Fl) (i k : Nat) (key : ByteArray) (w : World) (e : Ending) (w' : World) : Prop := ∃ qs, e = .returned (.tuple #[]) ∧ FleetAt w' M X { f with ps := qs } ∧ MvTo i k key f.ps qs ∧ Kp M X w w' ∧ Fr f.ps w w' ∧ Nb f.ps qs w

set_option maxRecDepth 10000 in
set_option maxHeartbeats 4000000 in
theorem move_any (M X : Nat) (f : Fl) (key : ByteArray) (i k r6 c6 m6 r7 c7 m7 : Nat) (P6 P7 : List Points.D) (p : Addr) (w : World) (hf : FleetAt w M X f) (hl : f.ps.length ≤ 1000) (hs : Rising ((nms f).map toL))
    (h6 : f.v6 = .slice (some ⟨r6, 0, none⟩) m6 c6) (h7 : f.v7 = .slice (some ⟨r7, 0, none⟩) m7 c7)
    (hO6 : ∀ u, Below w.heap.size w u → Calls Tryz.prog 115 #[.pointer (some ⟨X, 0, none⟩), .slice (some ⟨r6, 0, none⟩) m6 c6, .string key] u fun e u' => e = .returned (.pointer (some ⟨(f.ps.getD i zeroP).pb, 0, none⟩)) ∧ Below u.heap.size u u')
    (hO7 : ∀ u, Below w.heap.size w u → Calls Tryz.prog 115 #[.pointer (some ⟨X, 0, none⟩), .slice (some ⟨r7, 0, none⟩) m7 c7, .string key] u fun e u' => e = .returned (.pointer (some ⟨(f.ps.getD k zeroP).pb, 0, none⟩)) ∧ Below u.heap.size u u')
    (hi : i < f.ps.length) (hk : k < f.ps.length) (hkey : key.size ≤ maxLen) (hF : FullIs w p) (hM : M ≤ w.heap.size) (hFM : 0 < M) (hFX : 0 ≠ X)
    (hil : (f.ps.getD i zeroP).its.length ≤ 100) (hkl : (f.ps.getD k zeroP).its.length ≤ 60) (htok : ∀ x ∈ (f.ps.getD i zeroP).its, 0 ≤ x.token ∧ x.token ≤ 1000000000)
    (hlim : 0 ≤ (f.ps.getD k zeroP).lim ∧ (f.ps.getD k zeroP).lim ≤ 10000) (hlo : 0 ≤ (f.ps.getD k zeroP).lost ∧ (f.ps.getD k zeroP).lost ≤ 500) (hnx : 0 ≤ (f.ps.getD k zeroP).nx ∧ (f.ps.getD k zeroP).nx ≤ 1000000000) :
    Calls Tryz.prog 85 #[.pointer (some ⟨X, 0, none⟩), .string key] w (MvEnd M X f i k key w) := by
  obtain ⟨x6, x7⟩ : w.cell? ⟨X, 6, none⟩ = some (.slice (some ⟨r6, 0, none⟩) m6 c6) ∧ w.cell? ⟨X, 7, none⟩ = some (.slice (some ⟨r7, 0, none⟩) m7 c7) := by
    have h := hf.box.cells
    exact ⟨by rw [← h6]; exact h.2.2.2.2.2.2.1, by rw [← h7]; exact h.2.2.2.2.2.2.2.1⟩
  have HEQ := hide (fun u (hu : Below w.heap.size w u) => eql_place (hf.below hu) hi hk)
  obtain ⟨pi, hpi⟩ : ∃ q, q = f.ps.getD i zeroP := ⟨_, rfl⟩
  obtain ⟨pk, hpk⟩ : ∃ q, q = f.ps.getD k zeroP := ⟨_, rfl⟩
  rw [← hpi] at hO6 hil htok
  rw [← hpk] at hO7 hkl hlim hlo hnx
  rw [← hpi, ← hpk] at HEQ
  have HO6 := hide hO6
  have HO7 := hide hO7
  have HF := hide hf
  have HFU := hide hF
  have HMIX : Hid (Tryz.prog.follows .mixedOrders = true) := hide (by kernel_rfl)
  have HB0 : Hid (∀ u, Below w.heap.size w u → u.cell? ⟨pi.pb, 0, none⟩ = some (.pointer (some ⟨pi.hb, 0, none⟩))) := fun u hu => by rw [hpi]; exact ((hf.below hu).pl _ (getD_mem hi)).box.cells.1
  have HSH : Hid (∀ u, Below w.heap.size w u → _root_.Go.Proofs.YtjgfedmgmfpapaaGreatDoor.Shelf.Shelf u pi.hb pi.S pi.lim pi.nx pi.lost pi.its) := fun u hu => by rw [hpi]; exact ((hf.below hu).pl _ (getD_mem hi)).sh
  have HII := hide hi
  have HKK := hide hk
  have HPI := hide hpi
  have HPK := hide hpk
  clear hO6 hO7 hf hF hi hk hpi hpk
  go_enter Tryz.func85, Tryz.ntmps85
  go_wp2_with fail
  have cA := fun d os => Calls.regrown_of (unhide HO6 (Go.Sort.grow (redrawn w d) os) (below_regrown w d os))
  have cB := fun d os => Calls.regrown_of (unhide HO7 (Go.Sort.grow (redrawn w d) os) (below_regrown w d os))
  have x6 := cell_regrown x6
  have x7 := cell_regrown x7
  refine wp_region_quiet_below (unhide HMIX) (by kernel_rfl) ?_
  iterate 7 (go_big_quiet_step (exact cA _ _))
  clear cA
  repeat (go_big_quiet_step (exact cB _ _))
  refine wpQuiet_nil ?_
  intro _ hw'
  obtain ⟨⟨dq, osq⟩, hw''⟩ := hw'
  subst hw''
  have hbu := below_regrown w dq osq
  clear x6 x7 cB
  generalize (Go.Sort.grow (redrawn w dq) osq) = u at hbu ⊢
  have BU := hide hbu
  have heq := unhide HEQ u hbu
  have b0 := unhide HB0 u hbu
  clear hbu
  by_cases hik : i = k
  · rw [decide_eq_true hik] at heq
    have HE : Hid (MvTo i k key f.ps f.ps) := hide (by unfold MvTo; rw [if_pos hik])
    clear hik
    go_wp2
    exact bodyPost_ret (v := .tuple #[]) (by simp [results, Tryz.results85, go_sem]) rfl ⟨f.ps, rfl, (unhide HF).below (unhide BU), unhide HE, Kp.of_below (unhide BU) hM, Fr.below (unhide BU), Nb.refl _ _⟩
  rw [decide_eq_false hik] at heq
  cases ha : atN pi.its key with
  | none =>
    have HE : Hid (MvTo i k key f.ps f.ps) := hide (by unfold MvTo; rw [if_neg hik, ← unhide HPI, ha])
    have HT := hide (_root_.Go.Proofs.YtjgfedmgmfpapaaGreatDoor.Shelf.take_none u _ _ _ _ _ _ key (unhide HSH u (unhide BU)) hkey ha)
    clear hik ha
    go_wp2_with fail
    refine (unhide HT).mono ?_
    rintro e w2 ⟨rfl, hb2⟩
    have B2 := hide ((unhide BU).trans (hb2.mono (unhide BU).size))
    have hz2 := (unhide B2).size
    clear hb2
    go_wp2
    go_end0
    exact ⟨f.ps, rfl, (unhide HF).below ((unhide B2).alloc hz2 _), unhide HE, Kp.of_below ((unhide B2).alloc hz2 _) hM, Fr.below ((unhide B2).alloc hz2 _), Nb.refl _ _⟩
  | some r =>
    have hMu : M ≤ u.heap.size := Nat.le_trans hM (unhide BU).size
    have HT := hide (_root_.Go.Proofs.YtjgfedmgmfpapaaGreatDoor.Shelf.take_some u _ _ _ _ _ _ key r (unhide HSH u (unhide BU)) hil hkey ha)
    have HE : Hid (∀ S1 S2, MvTo i k key f.ps ((f.ps.set i (outP pi S1 r)).set k (inP pk S2 (pi.its.getD r zero)))) := fun S1 S2 => by
      unfold MvTo
      rw [if_neg hik, ← unhide HPI, ha, ← unhide HPK]
      exact ⟨S1, S2, rfl⟩
    have HS1 : Hid (∀ u', _root_.Go.Proofs.YtjgfedmgmfpapaaGreatDoor.Shelf.Step u u' pi.hb pi.S pi.lim pi.nx pi.lost (pi.its.eraseIdx r) → ∃ S', FleetAt u' M X { f with ps := f.ps.set i (outP pi S' r) } ∧ Kp M X u u' ∧ Fr f.ps u u' ∧ Nb f.ps (f.ps.set i (outP pi S' r)) u) := fun u' h => by
      obtain ⟨S', h1, h2, h3⟩ := h
      rw [unhide HPI] at h1 h2 h3
      obtain ⟨h4, h5⟩ := ((unhide HF).below (unhide BU)).stepS (k := i) (w' := u') (unhide HII) hMu h1 h2 h3
      have h6 := Fr.step (unhide HII) h3
      have h7 := Nb.step (unhide HII) (lim := pi.lim) (nx := pi.nx) (lost := pi.lost) (its := pi.its.eraseIdx r) h2
      rw [← unhide HPI] at h4 h7
      exact ⟨S', h4, h5, h6, h7⟩
    have HX : Hid (∃ x : Itm, x = pi.its.getD r zero ∧ Small x ∧ 0 ≤ x.token ∧ x.token ≤ 1000000000) := by
      refine ⟨_, rfl, ?_⟩
      have hm := it_mem (_root_.Go.Proofs.YtjgfedmgmfpapaaGreatDoor.Shelf.at_split ha).1
      exact ⟨(_root_.Go.Proofs.YtjgfedmgmfpapaaGreatDoor.Shelf.shelf_keys (unhide HSH u (unhide BU))).2 _ hm, htok _ hm⟩
    obtain ⟨x, hx, hsm, ht1, ht2⟩ := unhide HX
    rw [← hx] at HT HE
    have HGK : Hid (∀ S1, ({ f with ps := f.ps.set i (outP pi S1 r) } : Fl).ps.getD k zeroP = pk) := fun S1 => by
      show (f.ps.set i _).getD k zeroP = pk
      rw [unhide HPK]
      simp only [List.getD_eq_getElem?_getD]
      rw [List.getElem?_set_ne hik]
    clear hik ha hx HX htok
    go_wp2_with fail
    refine (unhide HT).mono ?_
    rintro e w2 ⟨rfl, hst⟩
    obtain ⟨S1, hf2, hkp2, hfr2, hnb2⟩ := unhide HS1 _ hst
    clear hst
    have hM2 : M ≤ w2.heap.size := Nat.le_trans hMu hkp2.size
    have F3 := hide (fun o => hf2.below (bel1 w2 o))
    have K3 := hide (fun o => (Kp.of_below (unhide BU) hM).trans (hkp2.trans (Kp.of_below (bel1 w2 o) hM2)))
    have M3 := hide (fun o => Nat.le_trans hM2 (bel1 w2 o).size)
    have R3 : Hid (∀ o, Fr f.ps w (w2.alloc o)) := fun o => ((Fr.below (unhide BU)).trans (Nb.refl _ _) hfr2 (unhide BU).size).trans (fun q hq b hb => (hnb2 q hq b hb).elim .inl (fun h => .inr (Nat.le_trans (unhide BU).size h))) (Fr.below (bel1 w2 o)) (Nat.le_trans (unhide BU).size hkp2.size)
    have N3 : Hid (Nb f.ps (f.ps.set i (outP pi S1 r)) w) := fun q hq b hb => (hnb2 q hq b hb).elim .inl (fun h => .inr (Nat.le_trans (unhide BU).size h))
    have Z3 : Hid (∀ o, w.heap.size ≤ (w2.alloc o).heap.size) := fun o => Nat.le_trans (Nat.le_trans (unhide BU).size hkp2.size) (bel1 w2 o).size
    clear hf2 hkp2 HT HS1 hfr2 hnb2
    unfold itemV
    go_wp2_with fail
    have hf3 := unhide F3 (.cells #[.string x.key, .int .i64 x.flags, .string x.data, .int .i64 x.upto, .int .i64 x.token] 94)
    have hk3 := unhide K3 (.cells #[.string x.key, .int .i64 x.flags, .string x.data, .int .i64 x.upto, .int .i64 x.token] 94)
    have hM3 := unhide M3 (.cells #[.string x.key, .int .i64 x.flags, .string x.data, .int .i64 x.upto, .int .i64 x.token] 94)
    have hr3 := unhide R3 (.cells #[.string x.key, .int .i64 x.flags, .string x.data, .int .i64 x.upto, .int .i64 x.token] 94)
    have hz3 := unhide Z3 (.cells #[.string x.key, .int .i64 x.flags, .string x.data, .int .i64 x.upto, .int .i64 x.token] 94)
    generalize w2.alloc (.cells #[.string x.key, .int .i64 x.flags, .string x.data, .int .i64 x.upto, .int .i64 x.token] 94) = U3 at hf3 hk3 hM3 hr3 hz3 ⊢
    have hkk : k < ({ f with ps := f.ps.set i (outP pi S1 r) } : Fl).ps.length := by show k < (f.ps.set i _).length; rw [List.length_set]; exact unhide HKK
    have hpl := hf3.pl _ (getD_mem hkk)
    have hlo3 := hf3.lo _ (getD_mem hkk)
    have hstp := fun (w' : World) (h : _root_.Go.Proofs.YtjgfedmgmfpapaaGreatDoor.Shelf.Step U3 w' (({ f with ps := f.ps.set i (outP pi S1 r) } : Fl).ps.getD k zeroP).hb (({ f with ps := f.ps.set i (outP pi S1 r) } : Fl).ps.getD k zeroP).S pk.lim (tkNx pk.nx x) (tkLost pk.lim pk.lost pk.its x) (tkIts pk.lim pk.its x)) => (show ∃ S2, FleetAt w' M X { f with ps := (f.ps.set i (outP pi S1 r)).set k (upd (({ f with ps := f.ps.set i (outP pi S1 r) } : Fl).ps.getD k zeroP) S2 pk.lim (tkNx pk.nx x) (tkLost pk.lim pk.lost pk.its x) (tkIts pk.lim pk.its x)) } ∧ Kp M X U3 w' ∧ Fr (f.ps.set i (outP pi S1 r)) U3 w' ∧ Nb (f.ps.set i (outP pi S1 r)) ((f.ps.set i (outP pi S1 r)).set k (upd (({ f with ps := f.ps.set i (outP pi S1 r) } : Fl).ps.getD k zeroP) S2 pk.lim (tkNx pk.nx x) (tkLost pk.lim pk.lost pk.its x) (tkIts pk.lim pk.its x))) U3 from by
      obtain ⟨S2, h1, h2, h3⟩ := h
      obtain ⟨h4, h5⟩ := hf3.stepS (k := k) (w' := w') hkk hM3 h1 h2 h3
      exact ⟨S2, h4, h5, Fr.step hkk h3, Nb.step hkk h2⟩)
    rw [unhide HGK S1] at hpl hlo3 hstp
    have hF3 : FullIs U3 p := ⟨(World.cell?_of_block (a := ⟨0, 0, none⟩) (hk3.block _ hFM hFX)).trans (unhide HFU).cell, by omega⟩
    refine (takeIn_any U3 pk.pb pk.hb pk.S pk.lim pk.nx pk.lost pk.its x p hpl.sh hF3 (fun hm => by have := hlo3 _ (List.mem_cons_of_mem _ hm); omega) hkl hsm hlim hlo hnx ⟨ht1, ht2⟩ hpl.out hpl.box.cells.1).mono ?_
    rintro e w4 ⟨rfl, hst⟩
    obtain ⟨S2, hf4, hk4, hr4, hn4⟩ := hstp _ hst
    have F4 := hide hf4
    have K4 := hide (hk3.trans hk4)
    have R4 := hide (hr3.trans (unhide N3) hr4 hz3)
    have N4 := hide ((unhide N3).trans hn4 hz3)
    clear hf3 hk3 hM3 hkk hpl hlo3 hstp hF3 hst hf4 hk4 F3 K3 M3 hr3 hz3 hr4 hn4 R3 N3 Z3
    go_wp2
    go_end0
    exact ⟨_, rfl, unhide F4, unhide HE S1 S2, unhide K4, unhide R4, unhide N4⟩
end Fleet
end Go.Proofs.YtjgfedmgmfpapaaGreatDoor
/-
  Keys that move one by one from ring to ring, plainly. No Go function is spoken of here.
-/
namespace Go.Proofs.YtjgfedmgmfpapaaGreatDoor
namespace Mv
open Go.RowKit Base Store Items OwnR Keep Clus Marks Plc Fleet
set_option linter.unusedVariables false

def ky (l : List Itm) : List ByteArray := l.map (·.key)
def leftB (cs : List Nodes.D) (nm : ByteArray) (x : Itm) : Bool := decide (own cs x.key ≠ nm)
/-- Something is left at a place. -/
def hasB (cs : List Nodes.D) (p : Pls.Core) : Bool := p.its.any (leftB cs p.name)
def noneB (cs : List Nodes.D) (s : List Pls.Core) : Bool := s.all (fun p => !hasB cs p)
def fI (cs : List Nodes.D) (s : List Pls.Core) : Nat := s.findIdx (hasB cs)
def fR (cs : List Nodes.D) (p : Pls.Core) : Nat := p.its.findIdx (leftB cs p.name)
def outC (p : Pls.Core) (r : Nat) : Pls.Core := ⟨p.name, p.lim, p.nx, p.its.eraseIdx r⟩
def inC (p : Pls.Core) (x : Itm) : Pls.Core := ⟨p.name, p.lim, max p.nx (x.token + 1), (p.its ++ [x]).drop (trimN p.lim (p.its ++ [x]))⟩
def mvAt (s : List Pls.Core) (i r k : Nat) : List Pls.Core := (s.set i (outC (s.getD i Pls.zeroC) r)).set k (inC (s.getD k Pls.zeroC) ((s.getD i Pls.zeroC).its.getD r zero))
def lostAt (s : List Pls.Core) (i r k : Nat) : Nat := trimN (s.getD k Pls.zeroC).lim ((s.getD k Pls.zeroC).its ++ [(s.getD i Pls.zeroC).its.getD r zero])
def kTo (cs : List Nodes.D) (s : List Pls.Core) (key : ByteArray) : Nat := kOf (own cs key) (s.map (·.name))
/-- The state behind one move: the places, and how many were lost. -/
def mv1 (cs : List Nodes.D) (t : List Pls.Core × Nat) : List Pls.Core × Nat :=
  (mvAt t.1 (fI cs t.1) (fR cs (t.1.getD (fI cs t.1) Pls.zeroC)) (kTo cs t.1 ((t.1.getD (fI cs t.1) Pls.zeroC).its.getD (fR cs (t.1.getD (fI cs t.1) Pls.zeroC)) zero).key),
   t.2 + lostAt t.1 (fI cs t.1) (fR cs (t.1.getD (fI cs t.1) Pls.zeroC)) (kTo cs t.1 ((t.1.getD (fI cs t.1) Pls.zeroC).its.getD (fR cs (t.1.getD (fI cs t.1) Pls.zeroC)) zero).key))
def mvN (cs : List Nodes.D) : Nat → List Pls.Core × Nat → List Pls.Core × Nat
  | 0, t => t
  | n + 1, t => mv1 cs (mvN cs n t)
def cnt (cs : List Nodes.D) : Nat → List Pls.Core × Nat → Nat
  | 0, _ => 0
  | n + 1, t => if noneB cs t.1 = true then 0 else cnt cs n (mv1 cs t) + 1
theorem mvN_shift (cs : List Nodes.D) : ∀ (n : Nat) (t : List Pls.Core × Nat), mvN cs n (mv1 cs t) = mvN cs (n + 1) t
  | 0, _ => rfl
  | n + 1, t => by rw [mvN, mvN_shift cs n t]; rfl
/-- As many as are asked for, or all that are left. -/
theorem cnt_is (cs : List Nodes.D) : ∀ (many m : Nat) (t : List Pls.Core × Nat), m ≤ many → (∀ j, j < m → noneB cs (mvN cs j t).1 = false) → (m = many ∨ noneB cs (mvN cs m t).1 = true) → cnt cs many t = m
  | 0, m, t, hm, _, _ => by rw [cnt]; omega
  | many + 1, 0, t, _, _, h => by
    rcases h with h | h
    · omega
    · rw [cnt]; exact if_pos h
  | many + 1, m + 1, t, hm, hj, h => by
    have h0 := hj 0 (by omega)
    rw [cnt, if_neg (by rw [show (mvN cs 0 t) = t from rfl] at h0; simp [h0])]
    congr 1
    refine cnt_is cs many m (mv1 cs t) (by omega) (fun j hj' => by rw [mvN_shift]; exact hj (j + 1) (by omega)) ?_
    rw [mvN_shift]
    rcases h with h | h
    · exact .inl (by omega)
    · exact .inr h

/-- What stays true of the places while keys move. -/
structure Inv (C : CC) (s : List Pls.Core) : Prop where
  nm : s.map (·.name) = C.ps.map (·.name)
  pl : ∀ p ∈ s, p.lim = C.lim ∧ p.its.length ≤ 60 ∧ total p.its ≤ C.lim ∧ 1 ≤ p.nx ∧ p.nx ≤ C.nx
  it : ∀ p ∈ s, ∀ x ∈ p.its, 1 ≤ x.key.size ∧ x.key.size ≤ 30 ∧ Small x ∧ 1 ≤ x.token ∧ x.token < C.nx ∧ oldB x C.now = false ∧ charge x ≤ C.lim
  hm : ∀ p ∈ s, ∀ x ∈ p.its, own C.ns x.key = p.name ∨ own C.cs x.key = p.name
  kd : ∀ p ∈ s, (ky p.its).Nodup
  kx : ∀ i j, i < s.length → j < s.length → i ≠ j → ∀ a ∈ (s.getD i Pls.zeroC).its, ∀ b ∈ (s.getD j Pls.zeroC).its, a.key ≠ b.key
theorem gD {s : List Pls.Core} {i : Nat} (hi : i < s.length) : s.getD i Pls.zeroC = s[i] := by simp [hi]
theorem gM {s : List Pls.Core} {i : Nat} (hi : i < s.length) : s.getD i Pls.zeroC ∈ s := by rw [gD hi]; exact List.getElem_mem hi
theorem iD {l : List Itm} {r : Nat} (hr : r < l.length) : l.getD r zero = l[r] := by simp [hr]
theorem iM {l : List Itm} {r : Nat} (hr : r < l.length) : l.getD r zero ∈ l := by rw [iD hr]; exact List.getElem_mem hr
theorem fI_lt {cs : List Nodes.D} {s : List Pls.Core} (h : noneB cs s = false) : fI cs s < s.length ∧ hasB cs (s.getD (fI cs s) Pls.zeroC) = true := by
  unfold noneB at h
  rw [List.all_eq_false] at h
  obtain ⟨p, hp, hq⟩ := h
  have hlt : fI cs s < s.length := List.findIdx_lt_length_of_exists ⟨p, hp, by simpa using hq⟩
  refine ⟨hlt, ?_⟩
  rw [gD hlt]
  exact List.findIdx_getElem (w := hlt)
theorem fI_before {cs : List Nodes.D} {s : List Pls.Core} {j : Nat} (h : j < fI cs s) (hl : j < s.length) : hasB cs (s.getD j Pls.zeroC) = false := by
  rw [gD hl]
  exact Bool.not_eq_true _ ▸ List.not_of_lt_findIdx h
theorem fI_is {cs : List Nodes.D} {s : List Pls.Core} {i : Nat} (hi : i < s.length) (hy : hasB cs (s.getD i Pls.zeroC) = true) (hn : ∀ j, j < i → hasB cs (s.getD j Pls.zeroC) = false) : fI cs s = i := by
  unfold fI
  rw [List.findIdx_eq hi]
  refine ⟨by rw [← gD hi]; exact hy, fun j hj => ?_⟩
  have := hn j hj
  rw [gD (by omega)] at this
  exact this
theorem fR_lt {cs : List Nodes.D} {p : Pls.Core} (h : hasB cs p = true) : fR cs p < p.its.length ∧ leftB cs p.name (p.its.getD (fR cs p) zero) = true := by
  unfold hasB at h
  obtain ⟨x, hx, hq⟩ := List.any_eq_true.1 h
  have hlt : fR cs p < p.its.length := List.findIdx_lt_length_of_exists ⟨x, hx, hq⟩
  refine ⟨hlt, ?_⟩
  rw [iD hlt]
  exact List.findIdx_getElem (w := hlt)
theorem fR_before {cs : List Nodes.D} {p : Pls.Core} {j : Nat} (h : j < fR cs p) (hl : j < p.its.length) : leftB cs p.name (p.its.getD j zero) = false := by
  rw [iD hl]
  exact Bool.not_eq_true _ ▸ List.not_of_lt_findIdx h
theorem fR_is {cs : List Nodes.D} {p : Pls.Core} {r : Nat} (hr : r < p.its.length) (hy : leftB cs p.name (p.its.getD r zero) = true) (hn : ∀ j, j < r → leftB cs p.name (p.its.getD j zero) = false) : fR cs p = r := by
  unfold fR
  rw [List.findIdx_eq hr]
  refine ⟨by rw [← iD hr]; exact hy, fun j hj => ?_⟩
  have := hn j hj
  rw [iD (by omega)] at this
  exact this
theorem none_iff {cs : List Nodes.D} {s : List Pls.Core} : noneB cs s = true ↔ ∀ i, i < s.length → hasB cs (s.getD i Pls.zeroC) = false := by
  unfold noneB
  rw [List.all_eq_true]
  constructor
  · intro h i hi
    have := h _ (gM hi)
    simpa using this
  · intro h p hp
    obtain ⟨i, hi, rfl⟩ := List.getElem_of_mem hp
    have := h i hi
    rw [gD hi] at this
    simp [this]
theorem Inv.len {C : CC} {s : List Pls.Core} (h : Inv C s) : s.length = C.ps.length := by have := congrArg List.length h.nm; simpa using this
theorem Inv.name {C : CC} {s : List Pls.Core} (h : Inv C s) {i : Nat} (hi : i < s.length) : (s.map (·.name)).getD i ByteArray.empty = (s.getD i Pls.zeroC).name := by
  simp [List.getD_eq_getElem?_getD, List.getElem?_map, List.getElem?_eq_getElem hi]
theorem Inv.ris {C : CC} {s : List Pls.Core} (h : Inv C s) (hg : gcB C = true) : Rising ((s.map (·.name)).map toL) := by rw [h.nm]; exact gc_rising hg
/-- Where a key is gone to. -/
theorem Inv.to {C : CC} {s : List Pls.Core} (h : Inv C s) (hg : gcB C = true) (hc : C.cs ≠ []) (key : ByteArray) : kTo C.cs s key < s.length ∧ (s.getD (kTo C.cs s key) Pls.zeroC).name = own C.cs key := by
  obtain ⟨j, hj⟩ := (gc_owner hg key).2 hc
  obtain ⟨h1, h2⟩ := at_some hj
  have e : kTo C.cs s key = j := by unfold kTo; rw [h.nm]; exact kOf_is (gc_rising hg) (by simpa using h1) h2
  have hl := h.len
  have hj' : j < s.length := by omega
  rw [e]
  refine ⟨hj', ?_⟩
  rw [← h.name hj', h.nm]
  exact h2
/-- Where a key is left. -/
theorem Inv.from {C : CC} {s : List Pls.Core} (h : Inv C s) (hg : gcB C = true) (key : ByteArray) : kOf (own C.ns key) (s.map (·.name)) < s.length ∧ (s.getD (kOf (own C.ns key) (s.map (·.name))) Pls.zeroC).name = own C.ns key := by
  obtain ⟨j, hj⟩ := (gc_owner hg key).1
  obtain ⟨h1, h2⟩ := at_some hj
  have e : kOf (own C.ns key) (s.map (·.name)) = j := by rw [h.nm]; exact kOf_is (gc_rising hg) (by simpa using h1) h2
  have hl := h.len
  have hj' : j < s.length := by omega
  rw [e]
  refine ⟨hj', ?_⟩
  rw [← h.name hj', h.nm]
  exact h2
theorem Inv.inj {C : CC} {s : List Pls.Core} (h : Inv C s) (hg : gcB C = true) {i j : Nat} (hi : i < s.length) (hj : j < s.length) (e : (s.getD i Pls.zeroC).name = (s.getD j Pls.zeroC).name) : i = j := by
  have h1 := kOf_is (h.ris hg) (x := (s.getD i Pls.zeroC).name) (by simpa using hi) (h.name hi)
  have h2 := kOf_is (h.ris hg) (x := (s.getD i Pls.zeroC).name) (by simpa using hj) ((h.name hj).trans e.symm)
  exact h1.symm.trans h2
theorem set_get {s : List Pls.Core} {i k j : Nat} {a b : Pls.Core} (hi : i < s.length) (hk : k < s.length) (hik : i ≠ k) : ((s.set i a).set k b).getD j Pls.zeroC = if j = k then b else if j = i then a else s.getD j Pls.zeroC := by
  simp only [List.getD_eq_getElem?_getD]
  by_cases e : j = k
  · subst e; rw [List.getElem?_set_self (by rw [List.length_set]; exact hk)]; simp
  · rw [List.getElem?_set_ne (fun h => e h.symm), if_neg e]
    by_cases e2 : j = i
    · subst e2; rw [List.getElem?_set_self hi]; simp
    · rw [List.getElem?_set_ne (fun h => e2 h.symm), if_neg e2]
theorem mem_two {s : List Pls.Core} {i k : Nat} {a b q : Pls.Core} (hi : i < s.length) (hk : k < s.length) (hik : i ≠ k) (h : q ∈ (s.set i a).set k b) : q = b ∨ q = a ∨ q ∈ s := by
  obtain ⟨j, hj, rfl⟩ := List.getElem_of_mem h
  have hl : j < s.length := by simpa using hj
  have e := set_get (j := j) (a := a) (b := b) hi hk hik
  rw [gD hj] at e
  rw [e]
  split
  · exact .inl rfl
  · split
    · exact .inr (.inl rfl)
    · exact .inr (.inr (gM hl))
theorem drop_fits (lim : Int) : ∀ l : List Itm, (∀ x ∈ l, charge x ≤ lim) → 0 ≤ lim → fitsB lim (l.drop (trimN lim l)) = true
  | [], _, h0 => by simp [fitsB, trimN, total, h0]
  | x :: r, h, h0 => by
    rw [trimN]
    split
    · next hf => exact hf
    · rw [List.drop_succ_cons]
      exact drop_fits lim r (fun y hy => h y (List.mem_cons_of_mem _ hy)) h0
theorem ky_mem {l : List Itm} {x : Itm} (h : x ∈ l) : x.key ∈ ky l := List.mem_map_of_mem h
theorem erase_mem {l : List Itm} {r : Nat} {x : Itm} (h : x ∈ l.eraseIdx r) : x ∈ l := List.mem_of_mem_eraseIdx h
theorem erase_key {l : List Itm} {r : Nat} (hr : r < l.length) (hd : (ky l).Nodup) : ∀ x ∈ l.eraseIdx r, x.key ≠ (l.getD r zero).key := by
  intro x hx
  rw [List.mem_eraseIdx_iff_getElem] at hx
  obtain ⟨j, hj, hne, rfl⟩ := hx
  rw [iD hr]
  intro e
  have h1 := (List.nodup_iff_pairwise_ne.1 hd)
  have h2 := List.pairwise_iff_getElem.1 h1
  rcases Nat.lt_or_gt_of_ne hne with h | h
  · exact h2 j r (by simpa [ky] using hj) (by simpa [ky] using hr) h (by simpa [ky] using e)
  · exact h2 r j (by simpa [ky] using hr) (by simpa [ky] using hj) h (by simpa [ky] using e.symm)
theorem ch_pos (x : Itm) : 0 ≤ charge x := by unfold charge; omega
theorem total_sub : ∀ (l : List Itm) (r : Nat), total (l.eraseIdx r) ≤ total l
  | [], _ => by simp [total]
  | x :: l, 0 => by
    have := ch_pos x
    show total l ≤ charge x + total l
    omega
  | x :: l, r + 1 => by
    have := total_sub l r
    show charge x + total (l.eraseIdx r) ≤ charge x + total l
    omega
theorem total_fits {lim : Int} {l : List Itm} (h : fitsB lim l = true) : total l ≤ lim ∧ l.length ≤ 60 := by
  simp only [fitsB, Bool.and_eq_true, decide_eq_true_eq] at h
  exact ⟨h.1, by omega⟩
/-- One move keeps it. -/
theorem Inv.move {C : CC} {s : List Pls.Core} (h : Inv C s) (hg : gcB C = true) (hlim : 0 ≤ C.lim) {i r k : Nat} (hi : i < s.length) (hr : r < (s.getD i Pls.zeroC).its.length) (hk : k < s.length) (hik : i ≠ k) (hto : (s.getD k Pls.zeroC).name = own C.cs ((s.getD i Pls.zeroC).its.getD r zero).key) : Inv C (mvAt s i r k) := by
  have hpi := gM hi
  have hpk := gM hk
  have hx := iM hr
  have hxi := h.it _ hpi _ hx
  have hkd := h.kd _ hpi
  have hkdk := h.kd _ hpk
  have hkx := h.kx i k hi hk hik
  unfold mvAt
  generalize hP : s.getD i Pls.zeroC = p at *
  generalize hQ : s.getD k Pls.zeroC = q at *
  generalize hX : p.its.getD r zero = x at *
  have hek := erase_key hr hkd
  rw [hX] at hek
  have hin : ∀ y ∈ (inC q x).its, y ∈ q.its ∨ y = x := fun y hy => by
    have := List.mem_of_mem_drop hy
    rcases List.mem_append.1 this with h1 | h1
    · exact .inl h1
    · exact .inr (by simpa using h1)
  have hch : ∀ y ∈ q.its ++ [x], charge y ≤ q.lim := fun y hy => by
    rw [(h.pl _ hpk).1]
    rcases List.mem_append.1 hy with h1 | h1
    · exact (h.it _ hpk y h1).2.2.2.2.2.2
    · rw [List.mem_singleton] at h1; subst h1; exact hxi.2.2.2.2.2.2
  have hft := total_fits (drop_fits q.lim (q.its ++ [x]) hch (by rw [(h.pl _ hpk).1]; exact hlim))
  refine ⟨?_, ?_, ?_, ?_, ?_, ?_⟩
  · rw [← h.nm, List.map_set, List.map_set]
    have e1 : (outC p r).name = (s.map (·.name))[i]'(by simpa using hi) := by rw [List.getElem_map, ← gD hi, hP]; rfl
    have e2 : (inC q x).name = (s.map (·.name))[k]'(by simpa using hk) := by rw [List.getElem_map, ← gD hk, hQ]; rfl
    rw [e1, List.set_getElem_self, e2, List.set_getElem_self]
  · intro p' hp'
    rcases mem_two hi hk hik hp' with rfl | rfl | hp'
    · have := h.pl _ hpk
      refine ⟨this.1, hft.2, ?_, ?_, ?_⟩
      · rw [← this.1]; exact hft.1
      · show 1 ≤ max q.nx (x.token + 1); omega
      · show max q.nx (x.token + 1) ≤ C.nx; omega
    · have := h.pl _ hpi
      refine ⟨this.1, ?_, ?_, this.2.2.2.1, this.2.2.2.2⟩
      · show (p.its.eraseIdx r).length ≤ 60
        have := List.length_eraseIdx_le p.its r; omega
      · exact Int.le_trans (total_sub p.its r) this.2.2.1
    · exact h.pl _ hp'
  · intro p' hp' y hy
    rcases mem_two hi hk hik hp' with rfl | rfl | hp'
    · rcases hin y hy with hy | rfl
      · exact h.it _ hpk y hy
      · exact hxi
    · exact h.it _ hpi y (erase_mem hy)
    · exact h.it _ hp' y hy
  · intro p' hp' y hy
    rcases mem_two hi hk hik hp' with rfl | rfl | hp'
    · rcases hin y hy with hy | rfl
      · exact h.hm _ hpk y hy
      · exact .inr hto.symm
    · exact h.hm _ hpi y (erase_mem hy)
    · exact h.hm _ hp' y hy
  · intro p' hp'
    rcases mem_two hi hk hik hp' with rfl | rfl | hp'
    · show (ky ((q.its ++ [x]).drop _)).Nodup
      unfold ky
      rw [List.map_drop]
      refine List.Nodup.sublist (List.drop_sublist _ _) ?_
      rw [List.map_append, List.nodup_append]
      refine ⟨hkdk, by simp, ?_⟩
      intro a ha b hb
      rw [List.map_cons, List.map_nil, List.mem_singleton] at hb
      obtain ⟨y, hy, rfl⟩ := List.mem_map.1 ha
      rw [hb]
      exact fun e => hkx x hx y hy e.symm
    · show (ky (p.its.eraseIdx r)).Nodup
      unfold ky
      exact List.Nodup.sublist ((List.eraseIdx_sublist _ _).map _) hkd
    · exact h.kd _ hp'
  · intro a b ha hb hab y hy z hz
    have hl : ((s.set i (outC p r)).set k (inC q x)).length = s.length := by simp
    rw [hl] at ha hb
    rw [set_get hi hk hik] at hy hz
    -- what lies at a place now came from there, or is the one that moved
    have hsrc : ∀ j, j < s.length → ∀ v, v ∈ (if j = k then inC q x else if j = i then outC p r else s.getD j Pls.zeroC).its → (v ∈ (s.getD j Pls.zeroC).its ∧ (j = i → v.key ≠ x.key)) ∨ (j = k ∧ v = x) := by
      intro j hj v hv
      split at hv
      · next e =>
        subst e
        rcases hin v hv with hv | rfl
        · exact .inl ⟨by rw [hQ]; exact hv, fun e => absurd e.symm hik⟩
        · exact .inr ⟨rfl, rfl⟩
      · split at hv
        · next e =>
          subst e
          exact .inl ⟨by rw [hP]; exact erase_mem hv, fun _ => hek v hv⟩
        · next e1 e2 => exact .inl ⟨hv, fun e => absurd e e2⟩
    have hxs : ∀ j, j < s.length → j ≠ i → ∀ v ∈ (s.getD j Pls.zeroC).its, v.key ≠ x.key := fun j hj hji v hv => h.kx j i hj hi hji v hv x (by rw [hP]; exact hx)
    rcases hsrc a ha y hy with ⟨h1, h2⟩ | ⟨h1, h2⟩ <;> rcases hsrc b hb z hz with ⟨h3, h4⟩ | ⟨h3, h4⟩
    · exact h.kx a b ha hb hab y h1 z h3
    · subst h4
      by_cases e : a = i
      · exact h2 e
      · exact hxs a ha e y h1
    · subst h2
      by_cases e : b = i
      · exact fun e' => h4 e e'.symm
      · exact fun e' => hxs b hb e z h3 e'.symm
    · omega
/-- The first that is left, and where it goes. -/
theorem Inv.first {C : CC} {s : List Pls.Core} (h : Inv C s) (hg : gcB C = true) (hc : C.cs ≠ []) (hn : noneB C.cs s = false) :
    ∃ i r k, fI C.cs s = i ∧ fR C.cs (s.getD i Pls.zeroC) = r ∧ kTo C.cs s ((s.getD i Pls.zeroC).its.getD r zero).key = k ∧ i < s.length ∧ r < (s.getD i Pls.zeroC).its.length ∧ k < s.length ∧ i ≠ k ∧ (s.getD k Pls.zeroC).name = own C.cs ((s.getD i Pls.zeroC).its.getD r zero).key := by
  obtain ⟨h1, h2⟩ := fI_lt hn
  obtain ⟨h3, h4⟩ := fR_lt h2
  obtain ⟨h5, h6⟩ := h.to hg hc ((s.getD (fI C.cs s) Pls.zeroC).its.getD (fR C.cs (s.getD (fI C.cs s) Pls.zeroC)) zero).key
  refine ⟨_, _, _, rfl, rfl, rfl, h1, h3, h5, fun e => ?_, h6⟩
  rw [← e] at h6
  unfold leftB at h4
  rw [decide_eq_true_eq] at h4
  exact h4 h6.symm
theorem Inv.step {C : CC} {t : List Pls.Core × Nat} (h : Inv C t.1) (hg : gcB C = true) (hlim : 0 ≤ C.lim) (hc : C.cs ≠ []) (hn : noneB C.cs t.1 = false) : Inv C (mv1 C.cs t).1 := by
  obtain ⟨i, r, k, h1, h2, h3, h4, h5, h6, h7, h8⟩ := h.first hg hc hn
  unfold mv1
  dsimp only
  rw [h1, h2, h3]
  exact h.move hg hlim h4 h5 h6 h7 h8
theorem inv_n {C : CC} {t : List Pls.Core × Nat} (h : Inv C t.1) (hg : gcB C = true) (hlim : 0 ≤ C.lim) (hc : C.cs ≠ []) : ∀ m, (∀ j, j < m → noneB C.cs (mvN C.cs j t).1 = false) → Inv C (mvN C.cs m t).1
  | 0, _ => h
  | m + 1, hj => (inv_n h hg hlim hc m (fun j h' => hj j (by omega))).step hg hlim hc (hj m (by omega))
end Mv
end Go.Proofs.YtjgfedmgmfpapaaGreatDoor
/-
  Keys that are left at a place, and how moves take them one by one, plainly. No Go function is spoken of here.
-/
namespace Go.Proofs.YtjgfedmgmfpapaaGreatDoor
namespace Mv
open Go.RowKit Base Store Items OwnR Keep Clus Marks Plc Fleet
set_option linter.unusedVariables false

/-- The keys that are left at a place. -/
def lk (cs : List Nodes.D) (p : Pls.Core) : List ByteArray := (p.its.filter (leftB cs p.name)).map (·.key)
theorem lk_has {cs : List Nodes.D} {p : Pls.Core} : lk cs p = [] ↔ hasB cs p = false := by
  unfold lk hasB
  rw [List.map_eq_nil_iff, List.filter_eq_nil_iff, List.any_eq_false]
theorem filter_first {α : Type} (f : α → Bool) : ∀ (l : List α) (h : l.findIdx f < l.length), l.filter f = l[l.findIdx f] :: (l.eraseIdx (l.findIdx f)).filter f
  | [], h => by simp at h
  | x :: l, h => by
    by_cases hx : f x = true
    · have e : (x :: l).findIdx f = 0 := by rw [List.findIdx_cons]; simp [hx]
      simp only [e]
      rw [List.filter_cons, if_pos hx]
      rfl
    · have hx' : f x = false := by simpa using hx
      have e : (x :: l).findIdx f = l.findIdx f + 1 := by rw [List.findIdx_cons]; simp [hx']
      have h' : l.findIdx f < l.length := by rw [e] at h; simpa using h
      simp only [e]
      rw [List.filter_cons, if_neg hx, filter_first f l h', List.eraseIdx_cons_succ, List.filter_cons, if_neg hx]
      rfl
theorem lk_cons {cs : List Nodes.D} {p : Pls.Core} (h : hasB cs p = true) : lk cs p = (p.its.getD (fR cs p) zero).key :: lk cs (outC p (fR cs p)) := by
  have hlt := (fR_lt h).1
  unfold lk
  have e : p.its.filter (leftB cs p.name) = _ := filter_first (leftB cs p.name) p.its hlt
  rw [e, List.map_cons, iD hlt]
  rfl
/-- Where a key stands that no other item has. -/
theorem at_key {l : List Itm} {r : Nat} (hr : r < l.length) (hd : (ky l).Nodup) : atN l (l.getD r zero).key = some r := by
  refine atN_hit hr (fun j hj => ?_) (by unfold hasKey; simp)
  unfold hasKey
  rw [name_eq, decide_eq_false_iff_not]
  intro e
  have h1 := List.pairwise_iff_getElem.1 (List.nodup_iff_pairwise_ne.1 hd) j r (by simp [ky]; omega) (by simpa [ky] using hr) hj
  rw [iD hr, iD (by omega)] at e
  exact h1 (by simpa [ky] using e)
theorem no_key {l : List Itm} {key : ByteArray} (h : ∀ y ∈ l, y.key ≠ key) : without l key = l := by
  unfold without
  rw [atN_none (fun j hj => by
    unfold hasKey
    rw [name_eq, decide_eq_false_iff_not]
    exact h _ (iM hj))]
/-- What is known where the first key that is left stands at place j. -/
structure At1 (C : CC) (s : List Pls.Core) (j : Nat) (key : ByteArray) (r k : Nat) : Prop where
  nn : noneB C.cs s = false
  fi : fI C.cs s = j
  fr : fR C.cs (s.getD j Pls.zeroC) = r
  rl : r < (s.getD j Pls.zeroC).its.length
  kr : ((s.getD j Pls.zeroC).its.getD r zero).key = key
  an : atN (s.getD j Pls.zeroC).its key = some r
  fm : kOf (own C.ns key) (s.map (·.name)) = j
  tk : kOf (own C.cs key) (s.map (·.name)) = k
  kl : k < s.length
  ne : j ≠ k
  nk : (s.getD k Pls.zeroC).name = own C.cs key
theorem first_at {C : CC} {s : List Pls.Core} {j : Nat} {key : ByteArray} {rest : List ByteArray} (h : Inv C s) (hg : gcB C = true) (hc : C.cs ≠ []) (hj : j < s.length) (hb : ∀ a, a < j → hasB C.cs (s.getD a Pls.zeroC) = false) (hl : lk C.cs (s.getD j Pls.zeroC) = key :: rest) : ∃ r k, At1 C s j key r k ∧ lk C.cs (outC (s.getD j Pls.zeroC) r) = rest := by
  have hh : hasB C.cs (s.getD j Pls.zeroC) = true := by
    cases e : hasB C.cs (s.getD j Pls.zeroC) with
    | true => rfl
    | false => rw [lk_has.2 e] at hl; cases hl
  obtain ⟨r1, r2⟩ := fR_lt hh
  have e1 := lk_cons hh
  rw [hl] at e1
  injection e1 with e2 e3
  have hnone : noneB C.cs s = false := by
    cases e : noneB C.cs s with
    | false => rfl
    | true => rw [none_iff.1 e j hj] at hh; cases hh
  have hfi := fI_is hj hh hb
  have hto := h.to hg hc key
  have hfr := h.from hg key
  have hd := h.kd _ (gM hj)
  refine ⟨fR C.cs (s.getD j Pls.zeroC), kTo C.cs s key, ⟨hnone, hfi, rfl, r1, e2.symm, ?_, ?_, rfl, hto.1, ?_, hto.2⟩, e3.symm⟩
  · rw [e2]; exact at_key r1 hd
  · have hm := h.hm _ (gM hj) _ (iM r1)
    rw [← e2] at hm
    unfold leftB at r2
    rw [decide_eq_true_eq, ← e2] at r2
    exact h.inj hg hfr.1 hj (hfr.2.trans (hm.resolve_right r2))
  · intro e
    unfold leftB at r2
    rw [decide_eq_true_eq, ← e2] at r2
    have := hto.2
    rw [← e] at this
    exact r2 this.symm
/-- Behind such a move. -/
theorem At1.step {C : CC} {s : List Pls.Core} {j r k : Nat} {key : ByteArray} (a : At1 C s j key r k) (hj : j < s.length) (hb : ∀ a, a < j → hasB C.cs (s.getD a Pls.zeroC) = false) :
    (mvAt s j r k).length = s.length ∧ (mvAt s j r k).getD j Pls.zeroC = outC (s.getD j Pls.zeroC) r ∧ ∀ b, b < j → hasB C.cs ((mvAt s j r k).getD b Pls.zeroC) = false := by
  unfold mvAt
  refine ⟨by simp, ?_, fun b hbj => ?_⟩
  · rw [set_get hj a.kl a.ne, if_neg a.ne, if_pos rfl]
  · rw [set_get hj a.kl a.ne]
    split
    · next e =>
      subst e
      unfold hasB
      rw [List.any_eq_false]
      intro y hy
      have hy' := List.mem_of_mem_drop hy
      rcases List.mem_append.1 hy' with h1 | h1
      · have := hb b hbj
        unfold hasB at this
        rw [List.any_eq_false] at this
        exact this y h1
      · rw [List.mem_singleton] at h1
        rw [h1]
        unfold leftB
        rw [a.kr]
        show ¬ decide (own C.cs key ≠ (s.getD b Pls.zeroC).name) = true
        rw [a.nk]
        simp
    · rw [if_neg (by omega)]
      exact hb b hbj
theorem At1.mv {C : CC} {s : List Pls.Core} {j r k : Nat} {key : ByteArray} {l : Nat} (a : At1 C s j key r k) : mv1 C.cs (s, l) = (mvAt s j r k, l + lostAt s j r k) := by
  unfold mv1 kTo
  dsimp only
  rw [a.fi, a.fr, a.kr, a.tk]
/-- The item that moves is not where it goes to. -/
theorem At1.fresh {C : CC} {s : List Pls.Core} {j r k : Nat} {key : ByteArray} (a : At1 C s j key r k) (h : Inv C s) (hj : j < s.length) : ∀ y ∈ (s.getD k Pls.zeroC).its, y.key ≠ key := by
  intro y hy e
  exact h.kx j k hj a.kl a.ne _ (iM a.rl) y hy (a.kr.trans e.symm)
theorem ch_le : ∀ {l : List Itm} {x : Itm}, x ∈ l → charge x ≤ total l ∧ 0 ≤ total l
  | [], x, h => by simp at h
  | y :: l, x, h => by
    have e : total (y :: l) = charge y + total l := rfl
    have hy := ch_pos y
    have h0 : 0 ≤ total l := by
      clear h e
      induction l with
      | nil => simp [total]
      | cons z r ih => have := ch_pos z; show 0 ≤ charge z + total r; omega
    rcases List.mem_cons.1 h with rfl | h
    · omega
    · have := (ch_le h).1; omega
theorem total_filter (f : Itm → Bool) : ∀ l : List Itm, total (l.filter f) ≤ total l
  | [] => by simp [total]
  | x :: l => by
    have h := total_filter f l
    have hx := ch_pos x
    rw [List.filter_cons]
    split
    · show charge x + total (l.filter f) ≤ charge x + total l; omega
    · show total (l.filter f) ≤ charge x + total l; omega
/-- What a good cluster is, place by place. -/
theorem gc_place {C : CC} (hg : gcB C = true) {i : Nat} (hi : i < C.ps.length) : (C.ps.getD i Pls.zeroC).lim = C.lim ∧ (C.ps.getD i Pls.zeroC).nx ≤ C.nx ∧ gsB (C.ps.getD i Pls.zeroC).lim (C.ps.getD i Pls.zeroC).nx (C.ps.getD i Pls.zeroC).its = true := by
  unfold gcB at hg
  simp only [Bool.and_eq_true] at hg
  have h1 := List.all_eq_true.1 hg.2 i (by simpa using hi)
  unfold Clus.stepB at h1
  rw [Bool.and_eq_true] at h1
  have h2 := h1.1
  unfold plB at h2
  simp only [Bool.and_eq_true, decide_eq_true_eq] at h2
  exact ⟨h2.1.2, h2.2, h2.1.1.2⟩
theorem gc_cross {C : CC} (hg : gcB C = true) : C.ps.Pairwise (fun a b => ∀ y ∈ a.its, ∀ x ∈ b.its, kL y ≠ kL x ∧ tL y ≠ tL x) := by
  refine (cross_iff C).1 (fun i hi x hx => ?_)
  unfold gcB at hg
  simp only [Bool.and_eq_true] at hg
  have h1 := List.all_eq_true.1 hg.2 i (by simpa using hi)
  unfold Clus.stepB at h1
  rw [Bool.and_eq_true] at h1
  have h2 := List.all_eq_true.1 h1.2 x hx
  unfold itB at h2
  rw [Bool.and_eq_true] at h2
  exact h2.2
theorem gs_all {lim nx : Int} {its : List Itm} (h : gsB lim nx its = true) : its.length ≤ 60 ∧ total its ≤ lim ∧ 1 ≤ nx ∧ (ky its).Nodup ∧ ∀ x ∈ its, 1 ≤ x.key.size ∧ x.key.size ≤ 30 ∧ Small x ∧ 1 ≤ x.token ∧ x.token < nx := by
  have hk := Flush.good_keys h
  unfold gsB at h
  simp only [Bool.and_eq_true, decide_eq_true_eq, GoodKey.inB] at h
  obtain ⟨⟨⟨⟨_, h2⟩, _⟩, h4⟩, h5⟩ := h
  have hgt := (goodTo_iff nx its its.length (Nat.le_refl _)).1 h4
  refine ⟨hk.1, h5, h2.1, hk.2.2, fun x hx => ?_⟩
  obtain ⟨q, hq, rfl⟩ := List.getElem_of_mem hx
  have h6 := hgt.1 q hq
  rw [iD hq] at h6
  unfold okB itemB at h6
  simp only [Bool.and_eq_true, decide_eq_true_eq, GoodKey.inB] at h6
  obtain ⟨⟨⟨⟨⟨h7, _⟩, _⟩, _⟩, h8⟩, h9⟩ := h6
  unfold GoodKey.gk at h7
  simp only [Bool.and_eq_true, GoodKey.inB, decide_eq_true_eq] at h7
  have e2 : its[q].key.data.toList.length = its[q].key.size := rfl
  have h10 := h7.1
  rw [e2] at h10
  exact ⟨by omega, by omega, hk.2.1 _ hx, h8.1, h9⟩
/-- A good cluster without what is old. -/
theorem inv_start {C : CC} (hg : gcB C = true) : Inv C (C.ps.map (dropC C.now)) := by
  have hpl : ∀ p ∈ C.ps, p.lim = C.lim ∧ p.nx ≤ C.nx ∧ gsB p.lim p.nx p.its = true := fun p hp => by
    obtain ⟨i, hi, rfl⟩ := List.getElem_of_mem hp
    have := gc_place hg hi
    rw [gD hi] at this
    exact this
  have hal : ∀ p ∈ C.ps, _ := fun p hp => gs_all (hpl p hp).2.2
  refine ⟨?_, ?_, ?_, ?_, ?_, ?_⟩
  · rw [List.map_map]; rfl
  · intro p hp
    obtain ⟨c, hc, rfl⟩ := List.mem_map.1 hp
    obtain ⟨h1, h2, h3, h4, h5⟩ := hal c hc
    have h6 := hpl c hc
    refine ⟨h6.1, Nat.le_trans (List.length_filter_le _ _) h1, ?_, h3, h6.2.1⟩
    rw [← h6.1]
    exact Int.le_trans (total_filter _ _) h2
  · intro p hp x hx
    obtain ⟨c, hc, rfl⟩ := List.mem_map.1 hp
    obtain ⟨h1, h2, h3, h4, h5⟩ := hal c hc
    have h6 := hpl c hc
    obtain ⟨hx1, hx2⟩ := List.mem_filter.1 (show x ∈ c.its.filter (fun x => !oldB x C.now) from hx)
    obtain ⟨k1, k2, k3, k4, k5⟩ := h5 x hx1
    refine ⟨k1, k2, k3, k4, by omega, by simpa using hx2, ?_⟩
    rw [← h6.1]
    exact Int.le_trans (ch_le hx1).1 h2
  · intro p hp x hx
    obtain ⟨c, hc, rfl⟩ := List.mem_map.1 hp
    obtain ⟨hx1, -⟩ := List.mem_filter.1 (show x ∈ c.its.filter (fun x => !oldB x C.now) from hx)
    have h := hg
    rw [gc_eq, Bool.and_eq_true] at h
    have hk := h.2
    unfold Clus.keepB at hk
    simp only [Bool.and_eq_true] at hk
    have h1 := List.all_eq_true.1 (List.all_eq_true.1 hk.1.1 c hc) x hx1
    unfold homeB at h1
    simp only [Bool.or_eq_true, Bool.and_eq_true, decide_eq_true_eq] at h1
    rcases h1 with h1 | h1
    · exact .inl h1
    · exact .inr h1.2
  · intro p hp
    obtain ⟨c, hc, rfl⟩ := List.mem_map.1 hp
    have h := (hal c hc).2.2.2.1
    unfold ky at h ⊢
    exact List.Nodup.sublist (List.filter_sublist.map _) h
  · intro i j hi hj hij a ha b hb
    rw [List.length_map] at hi hj
    have e : ∀ k (hk : k < C.ps.length), (C.ps.map (dropC C.now)).getD k Pls.zeroC = dropC C.now C.ps[k] := fun k hk => by simp [List.getD_eq_getElem?_getD, List.getElem?_map, List.getElem?_eq_getElem hk]
    rw [e i hi] at ha
    rw [e j hj] at hb
    have ha' := (List.mem_filter.1 (show a ∈ C.ps[i].its.filter (fun x => !oldB x C.now) from ha)).1
    have hb' := (List.mem_filter.1 (show b ∈ C.ps[j].its.filter (fun x => !oldB x C.now) from hb)).1
    have hp := List.pairwise_iff_getElem.1 (gc_cross hg)
    intro e2
    rcases Nat.lt_or_gt_of_ne hij with h | h
    · exact (hp i j hi hj h a ha' b hb').1 (by unfold kL; rw [e2])
    · exact (hp j i hj hi h b hb' a ha').1 (by unfold kL; rw [e2])
end Mv
end Go.Proofs.YtjgfedmgmfpapaaGreatDoor
/-
  The program's (*fleet).leftAt and (*fleet).move on a cluster whose keys move, by plain states.
-/
namespace Go.Proofs.YtjgfedmgmfpapaaGreatDoor
namespace Fleet
open Go.RowKit Base Store Items OwnR Keep Clus Marks Plc Mv
open _root_.Go.Proofs.YtjgfedmgmfpapaaGreatDoor.Shelf (FullIs)
set_option linter.unusedVariables false

/-- What all places have lost. -/
def lsum : List Pc → Int
  | [] => 0
  | p :: r => p.lost + lsum r
theorem lsum_set : ∀ (ps : List Pc) (k : Nat) (p' : Pc), k < ps.length → lsum (ps.set k p') = lsum ps - (ps.getD k zeroP).lost + p'.lost
  | [], k, p', h => by simp at h
  | p :: r, 0, p', h => by
    show p'.lost + lsum r = p.lost + lsum r - p.lost + p'.lost
    omega
  | p :: r, k + 1, p', h => by
    have := lsum_set r k p' (by simpa using h)
    show p.lost + lsum (r.set k p') = p.lost + lsum r - (r.getD k zeroP).lost + p'.lost
    omega
theorem lostTo_sum : ∀ (ps : List Pc) (l : Int), l ≤ 1000000 → (∀ p ∈ ps, 0 ≤ p.lost) → lostTo l ps = min (l + lsum ps) 1000000
  | [], l, h, _ => by show l = min (l + 0) 1000000; omega
  | p :: r, l, h, hp => by
    have e : lostTo l (p :: r) = lostTo (min (l + p.lost) 1000000) r := rfl
    have h1 := hp p List.mem_cons_self
    have h2 : 0 ≤ lsum r := by
      have : ∀ q ∈ r, 0 ≤ q.lost := fun q hq => hp q (List.mem_cons_of_mem _ hq)
      clear e hp
      induction r with
      | nil => exact Int.le_refl _
      | cons q r ih =>
        have h3 := this q List.mem_cons_self
        have h4 := ih (fun q hq => this q (List.mem_cons_of_mem _ hq))
        show 0 ≤ q.lost + lsum r
        omega
    rw [e, lostTo_sum r _ (by omega) (fun q hq => hp q (List.mem_cons_of_mem _ hq))]
    show min (min (l + p.lost) 1000000 + lsum r) 1000000 = min (l + (p.lost + lsum r)) 1000000
    omega
theorem pc_at {qs : List Pc} {j : Nat} (hj : j < qs.length) : (qs.map pcore).getD j Pls.zeroC = pcore (qs.getD j zeroP) := by
  simp [List.getD_eq_getElem?_getD, List.getElem?_map, List.getElem?_eq_getElem hj]
/-- How far the moves have come. -/
structure Sv (C : CC) (s0 : List Pls.Core) (m : Nat) (qs : List Pc) : Prop where
  co : qs.map pcore = (mvN C.cs m (s0, 0)).1
  ls : lsum qs = ((mvN C.cs m (s0, 0)).2 : Nat)
  bd : ∀ p ∈ qs, 0 ≤ p.lost ∧ p.lost + p.its.length ≤ 60 + m
  nn : ∀ j, j < m → noneB C.cs (mvN C.cs j (s0, 0)).1 = false
theorem pair_eq {α β : Type} (t : α × β) : t = (t.1, t.2) := rfl
theorem Sv.step {C : CC} {s0 : List Pls.Core} {m j r k : Nat} {qs qs' : List Pc} {key : ByteArray} (h : Sv C s0 m qs) (hi : Inv C (qs.map pcore)) (a : At1 C (qs.map pcore) j key r k) (hj : j < qs.length) (hm : MvTo j k key qs qs') : Sv C s0 (m + 1) qs' ∧ qs'.map pcore = mvAt (qs.map pcore) j r k := by
  have hk : k < qs.length := by have := a.kl; simpa using this
  have ej := pc_at hj
  have ek := pc_at hk
  have han := a.an
  have hkr := a.kr
  have hrl := a.rl
  rw [ej] at han hkr hrl
  have hfr := a.fresh hi (by simpa using hj)
  rw [ek] at hfr
  unfold MvTo at hm
  rw [if_neg a.ne] at hm
  have han' : atN (qs.getD j zeroP).its key = some r := han
  rw [han'] at hm
  obtain ⟨S1, S2, rfl⟩ := hm
  have hjp := hi.it _ (gM (show j < (qs.map pcore).length by simpa using hj)) _ (by rw [ej]; exact iM hrl)
  have hkp := hi.pl _ (gM (show k < (qs.map pcore).length by simpa using hk))
  rw [ek] at hkp
  generalize hx : (qs.getD j zeroP).its.getD r zero = x at *
  have hx' : (pcore (qs.getD j zeroP)).its.getD r zero = x := hx
  rw [hx'] at hkr hjp
  have hch : ¬ (qs.getD k zeroP).lim < charge x := by
    have h1 := hkp.1
    have h2 : (pcore (qs.getD k zeroP)).lim = (qs.getD k zeroP).lim := rfl
    rw [h2] at h1
    have h3 := hjp.2.2.2.2.2.2
    omega
  have hwo : without (qs.getD k zeroP).its x.key = (qs.getD k zeroP).its := no_key (fun y hy => by rw [hkr]; exact hfr y hy)
  have e1 : tkIts (qs.getD k zeroP).lim (qs.getD k zeroP).its x = ((qs.getD k zeroP).its ++ [x]).drop (trimN (qs.getD k zeroP).lim ((qs.getD k zeroP).its ++ [x])) := by unfold tkIts; rw [if_neg hch, hwo]
  have e2 : tkLost (qs.getD k zeroP).lim (qs.getD k zeroP).lost (qs.getD k zeroP).its x = (qs.getD k zeroP).lost + trimN (qs.getD k zeroP).lim ((qs.getD k zeroP).its ++ [x]) := by unfold tkLost; rw [if_neg hch, hwo]
  have ein : pcore (inP (qs.getD k zeroP) S2 x) = inC (pcore (qs.getD k zeroP)) x := by
    show (⟨(qs.getD k zeroP).name, (qs.getD k zeroP).lim, tkNx (qs.getD k zeroP).nx x, tkIts (qs.getD k zeroP).lim (qs.getD k zeroP).its x⟩ : Pls.Core) = _
    rw [e1]; rfl
  have emap : ((qs.set j (outP (qs.getD j zeroP) S1 r)).set k (inP (qs.getD k zeroP) S2 x)).map pcore = mvAt (qs.map pcore) j r k := by
    unfold mvAt
    rw [List.map_set, List.map_set, ein, ej, ek, hx']
    rfl
  have hst : mvN C.cs (m + 1) (s0, 0) = mv1 C.cs ((qs.map pcore), (mvN C.cs m (s0, 0)).2) := by
    rw [h.co]; rfl
  rw [a.mv] at hst
  have elost : lostAt (qs.map pcore) j r k = trimN (qs.getD k zeroP).lim ((qs.getD k zeroP).its ++ [x]) := by unfold lostAt; rw [ej, ek, hx']; rfl
  refine ⟨⟨?_, ?_, ?_, ?_⟩, emap⟩
  · rw [hst]; exact emap
  · rw [hst]
    show lsum _ = (((mvN C.cs m (s0, 0)).2 + lostAt (qs.map pcore) j r k : Nat) : Int)
    have hgk : (qs.set j (outP (qs.getD j zeroP) S1 r)).getD k zeroP = qs.getD k zeroP := by
      simp only [List.getD_eq_getElem?_getD]
      rw [List.getElem?_set_ne a.ne]
    rw [lsum_set _ k _ (by rw [List.length_set]; exact hk), lsum_set _ j _ hj, hgk, h.ls, elost]
    have e3 : (outP (qs.getD j zeroP) S1 r).lost = (qs.getD j zeroP).lost := rfl
    have e4 : (inP (qs.getD k zeroP) S2 x).lost = tkLost (qs.getD k zeroP).lim (qs.getD k zeroP).lost (qs.getD k zeroP).its x := rfl
    rw [e3, e4, e2]
    omega
  · intro p hp
    rcases mem_set hp with rfl | ⟨i, hi', hne, rfl⟩
    · have hb := h.bd _ (getD_mem hk)
      have e4 : (inP (qs.getD k zeroP) S2 x).lost = tkLost (qs.getD k zeroP).lim (qs.getD k zeroP).lost (qs.getD k zeroP).its x := rfl
      have e5 : (inP (qs.getD k zeroP) S2 x).its = tkIts (qs.getD k zeroP).lim (qs.getD k zeroP).its x := rfl
      have ht := trimN_le (qs.getD k zeroP).lim ((qs.getD k zeroP).its ++ [x])
      rw [e4, e5, e1, e2, List.length_drop, List.length_append] at *
      simp only [List.length_cons, List.length_nil] at *
      omega
    · rw [List.length_set] at hi'
      by_cases e : i = j
      · subst e
        have hb := h.bd _ (getD_mem hj)
        rw [List.getElem_set_self]
        have e6 : (outP (qs.getD i zeroP) S1 r).its.length ≤ (qs.getD i zeroP).its.length := List.length_eraseIdx_le _ _
        have e7 : (outP (qs.getD i zeroP) S1 r).lost = (qs.getD i zeroP).lost := rfl
        omega
      · rw [List.getElem_set_ne (fun h => e h.symm)]
        have hb := h.bd _ (List.getElem_mem hi')
        omega
  · intro i hi'
    by_cases e : i = m
    · rw [e, ← h.co]; exact a.nn
    · exact h.nn i (by omega)

theorem left_lk {C : CC} {s : List Pls.Core} {j : Nat} (h : Inv C s) (hg : gcB C = true) (hc : C.cs ≠ []) (hj : j < s.length) : leftK C.now (fun k => kOf (own C.cs k) (s.map (·.name))) j (s.getD j Pls.zeroC).its = lk C.cs (s.getD j Pls.zeroC) := by
  unfold leftK lk
  congr 1
  apply List.filter_congr
  intro x hx
  have h1 := (h.it _ (gM hj) x hx).2.2.2.2.2.1
  obtain ⟨h2, h3⟩ := h.to hg hc x.key
  unfold leftB
  rw [h1]
  simp only [Bool.not_false, Bool.true_and]
  show decide (kTo C.cs s x.key ≠ j) = decide (own C.cs x.key ≠ (s.getD j Pls.zeroC).name)
  by_cases e : kTo C.cs s x.key = j
  · rw [e] at h3
    rw [decide_eq_false (by simpa using e), decide_eq_false (by rw [← h3]; simp)]
  · rw [decide_eq_true e, eq_comm, decide_eq_true_eq]
    exact fun e2 => e (h.inj hg h2 hj (h3.trans e2))

/-- All that a cluster at work brings along while keys move. -/
structure Env (C : CC) (M X : Nat) (f : Fl) (w : World) (p : Addr) : Prop where
  gc : gcB C = true
  cs : C.cs ≠ []
  now : f.now = C.now
  rg : RingsAt w M X f C.ns C.cs
  full : FullIs w p
  fm : 0 < M
  fx : 0 ≠ X
  mw : M ≤ w.heap.size
theorem nms_map (f : Fl) (qs : List Pc) : nms { f with ps := qs } = (qs.map pcore).map (·.name) := by unfold nms; rw [List.map_map]; rfl

theorem leftAt_c (C : CC) (M X : Nat) (f : Fl) (w : World) (p : Addr) (e : Env C M X f w p) (u : World) (qs : List Pc) (hf : FleetAt u M X { f with ps := qs }) (hk : Kp M X w u) (hi : Inv C (qs.map pcore)) (j : Nat) (hj : j < qs.length) (hl : qs.length ≤ 16) :
    Calls Tryz.prog 103 #[.pointer (some ⟨X, 0, none⟩), .pointer (some ⟨(qs.getD j zeroP).pb, 0, none⟩)] u (LfEnd (lk C.cs ((qs.map pcore).getD j Pls.zeroC)) u) := by
  obtain ⟨g1, c1, g2, c2, hv6, hv7, hr1, hr2, hl1, hl2, hn1, hn2⟩ := e.rg.kp (f' := { f with ps := qs }) hk rfl rfl
  have d4 := (gc_head' e.gc).2.2.2
  have d5 : NodesM.gnB C.cs = true := d4.resolve_left e.cs
  have egoal : goal C.ns C.cs = C.cs := by unfold goal; cases h : C.cs with | nil => exact absurd h e.cs | cons a r => rfl
  rw [egoal] at hv7 hr2
  have hpl := Ring.points_len d5
  have hpp := Ring.points_pos d5
  have hs : Rising ((nms { f with ps := qs }).map toL) := by rw [nms_map]; exact hi.ris e.gc
  have hj' : j < (qs.map pcore).length := by simpa using hj
  have hpc := pc_at hj
  have h := leftAt_any M X { f with ps := qs } j g2 c2 (Ring.points C.cs).length (Ring.ring (Ring.points C.cs)) (fun k => kOf (own C.cs k) (nms { f with ps := qs })) u hf (by show qs.length ≤ 1000; omega) hs hv7 hr2 (Ring.ring_length _) hpp (by omega) (Ring.ring_sorted _) hj (by
    have := (hi.pl _ (gM hj')).2.1
    rw [hpc] at this
    show (qs.getD j zeroP).its.length ≤ 100
    have e2 : (pcore (qs.getD j zeroP)).its = (qs.getD j zeroP).its := rfl
    rw [e2] at this
    omega) (fun x hx => by
    have hx' : x ∈ ((qs.map pcore).getD j Pls.zeroC).its := by rw [hpc]; exact hx
    have h1 := hi.it _ (gM hj') x hx'
    obtain ⟨h2, h3⟩ := hi.to e.gc e.cs x.key
    refine ⟨by omega, rfl, ?_⟩
    show kOf (own C.cs x.key) (nms { f with ps := qs }) < qs.length
    rw [nms_map]
    have : kTo C.cs (qs.map pcore) x.key < (qs.map pcore).length := h2
    rw [List.length_map] at this
    exact this)
  have e3 := left_lk hi e.gc e.cs hj'
  rw [hpc] at e3
  have e4 : leftK f.now (fun k => kOf (own C.cs k) (nms { f with ps := qs })) j (qs.getD j zeroP).its = lk C.cs (pcore (qs.getD j zeroP)) := by rw [← e3, nms_map, e.now]; rfl
  rw [hpc, ← e4]
  exact h

theorem move_c (C : CC) (M X : Nat) (f : Fl) (w : World) (p : Addr) (e : Env C M X f w p) (u : World) (qs : List Pc) (hf : FleetAt u M X { f with ps := qs }) (hk : Kp M X w u) (hi : Inv C (qs.map pcore)) (j r k m : Nat) (key : ByteArray) (a : At1 C (qs.map pcore) j key r k) (hj : j < qs.length) (hl : qs.length ≤ 16) (hb : ∀ p ∈ qs, 0 ≤ p.lost ∧ p.lost + p.its.length ≤ 60 + m) (hm : m ≤ 100) :
    Calls Tryz.prog 85 #[.pointer (some ⟨X, 0, none⟩), .string key] u (MvEnd M X { f with ps := qs } j k key u) := by
  obtain ⟨g1, c1, g2, c2, hv6, hv7, hr1, hr2, hl1, hl2, hn1, hn2⟩ := e.rg.kp (f' := { f with ps := qs }) hk rfl rfl
  obtain ⟨-, d2, d3, d4⟩ := gc_head' e.gc
  have d5 : NodesM.gnB C.cs = true := d4.resolve_left e.cs
  have egoal : goal C.ns C.cs = C.cs := by unfold goal; cases h : C.cs with | nil => exact absurd h e.cs | cons a r => rfl
  rw [egoal] at hv7 hr2
  have hpl := Ring.points_len d5
  have hpp := Ring.points_pos d5
  have hpl1 := Ring.points_len d3
  have hpp1 := Ring.points_pos d3
  have hs : Rising ((nms { f with ps := qs }).map toL) := by rw [nms_map]; exact hi.ris e.gc
  have hj' : j < (qs.map pcore).length := by simpa using hj
  have hk' : k < qs.length := by have := a.kl; simpa using this
  have ej := pc_at hj
  have ek := pc_at hk'
  have hjp := hi.pl _ (gM hj')
  have hkp := hi.pl _ (gM a.kl)
  have hji := hi.it _ (gM hj')
  rw [ej] at hjp hji
  rw [ek] at hkp
  have hkey : key.size ≤ 30 := by
    have := hi.it _ (gM hj') _ (iM a.rl)
    rw [a.kr] at this
    exact this.2.1
  have hh := e.gc
  rw [gc_eq, Bool.and_eq_true, Bool.and_eq_true] at hh
  obtain ⟨-, hnx, hlim, -, -, -⟩ := (head_iff C).1 hh.1.1
  simp only [GoodKey.inB, Bool.and_eq_true, decide_eq_true_eq] at hnx hlim
  have hbk := hb _ (getD_mem hk')
  refine move_any M X { f with ps := qs } key j k g1 c1 (Ring.points C.ns).length g2 c2 (Ring.points C.cs).length (Ring.ring (Ring.points C.ns)) (Ring.ring (Ring.points C.cs)) p u hf (by show qs.length ≤ 1000; omega) hs hv6 hv7 ?_ ?_ hj hk' (by unfold maxLen; omega) ?_ (Nat.le_trans e.mw hk.size) e.fm e.fx ?_ ?_ ?_ ?_ ?_ ?_
  · intro v hv
    exact ownerOn_any M X { f with ps := qs } g1 c1 (Ring.points C.ns).length (Ring.ring (Ring.points C.ns)) key j v (hf.below hv) (by show qs.length ≤ 1000; omega) hs (hr1.below hv hr1.lt) (Ring.ring_length _) hpp1 (by omega) (Ring.ring_sorted _) (by unfold maxLen; omega) hj (by rw [nms_map]; exact a.fm)
  · intro v hv
    exact ownerOn_any M X { f with ps := qs } g2 c2 (Ring.points C.cs).length (Ring.ring (Ring.points C.cs)) key k v (hf.below hv) (by show qs.length ≤ 1000; omega) hs (hr2.below hv hr2.lt) (Ring.ring_length _) hpp (by omega) (Ring.ring_sorted _) (by unfold maxLen; omega) hk' (by rw [nms_map]; exact a.tk)
  · exact ⟨(World.cell?_of_block (a := ⟨0, 0, none⟩) (hk.block _ e.fm e.fx)).trans e.full.cell, Nat.lt_of_lt_of_le e.full.lt hk.size⟩
  · show (qs.getD j zeroP).its.length ≤ 100
    have : (qs.getD j zeroP).its.length ≤ 60 := hjp.2.1
    omega
  · exact hkp.2.1
  · intro x hx
    have := hji x hx
    omega
  · show 0 ≤ (qs.getD k zeroP).lim ∧ (qs.getD k zeroP).lim ≤ 10000
    have : (qs.getD k zeroP).lim = C.lim := hkp.1
    omega
  · show 0 ≤ (qs.getD k zeroP).lost ∧ (qs.getD k zeroP).lost ≤ 500
    omega
  · show 0 ≤ (qs.getD k zeroP).nx ∧ (qs.getD k zeroP).nx ≤ 1000000000
    have h1 : 1 ≤ (qs.getD k zeroP).nx := hkp.2.2.2.1
    have h2 : (qs.getD k zeroP).nx ≤ C.nx := hkp.2.2.2.2
    omega
end Fleet
end Go.Proofs.YtjgfedmgmfpapaaGreatDoor
