/-
  The program's (*fleet).moveSome: keys move one by one, place by place.
-/
import Derived.Test.YtjgfedmgmfpapaaGreatDoorZ26
import Derived.Test.YtjgfedmgmfpapaaGreatDoorZ22
import Derived.Test.YtjgfedmgmfpapaaGreatDoorZ21
namespace Go.Proofs.YtjgfedmgmfpapaaGreatDoor
namespace Fleet
open Go.RowKit Base Store Items OwnR Keep Clus Marks Plc Mv
set_option linter.unusedVariables false

/-- How (*fleet).moveSome ends. -/
def MsEnd (C : CC) (M X : Nat) (f : Fl) (s0 : List Pls.Core) (many : Nat) (w : World) (e : Ending) (w' : World) : Prop :=
  ∃ (m : Nat) (qs : List Pc), e = .returned (.int .i64 (m : Int)) ∧ FleetAt w' M X { f with ps := qs } ∧ Sv C s0 m qs ∧ m ≤ many ∧ (m = many ∨ noneB C.cs (qs.map pcore) = true) ∧ Kp M X w w'
/-- Nothing is left at the first places. -/
def Bef (C : CC) (qs : List Pc) (j : Nat) : Prop := ∀ a, a < j → hasB C.cs ((qs.map pcore).getD a Pls.zeroC) = false
theorem Bef.next {C : CC} {qs : List Pc} {j : Nat} (h : Bef C qs j) (hl : lk C.cs ((qs.map pcore).getD j Pls.zeroC) = []) : Bef C qs (j + 1) := fun a ha => if e : a = j then e ▸ lk_has.1 hl else h a (by omega)
theorem Bef.all {C : CC} {qs : List Pc} (h : Bef C qs qs.length) : noneB C.cs (qs.map pcore) = true := none_iff.2 (fun i hi => h i (by simpa using hi))
theorem Sv.inv {C : CC} {s0 : List Pls.Core} {m : Nat} {qs : List Pc} (h : Sv C s0 m qs) (h0 : Inv C s0) (hg : gcB C = true) (hc : C.cs ≠ []) (hl : 0 ≤ C.lim) : Inv C (qs.map pcore) := by
  rw [h.co]; exact inv_n (t := (s0, 0)) h0 hg hl hc m h.nn
/-- One move, as the walk wants it. -/
theorem one_move {C : CC} {M X : Nat} {f : Fl} {w : World} {p : Addr} (e : Env C M X f w p) {s0 : List Pls.Core} (h0 : Inv C s0) (hlim : 0 ≤ C.lim) {m : Nat} {qs : List Pc} (hs : Sv C s0 m qs) {j : Nat} (hj : j < qs.length) (hl : qs.length ≤ 16) (hm : m ≤ 100) (hb : Bef C qs j) {key : ByteArray} {rest : List ByteArray} (hk : lk C.cs ((qs.map pcore).getD j Pls.zeroC) = key :: rest) (u : World) (hf : FleetAt u M X { f with ps := qs }) (hkp : Kp M X w u) :
    Calls Tryz.prog 85 #[.pointer (some ⟨X, 0, none⟩), .string key] u fun e u' => ∃ qs', e = .returned (.tuple #[]) ∧ FleetAt u' M X { f with ps := qs' } ∧ Sv C s0 (m + 1) qs' ∧ qs'.length = qs.length ∧ Bef C qs' j ∧ lk C.cs ((qs'.map pcore).getD j Pls.zeroC) = rest ∧ qs'.map ptr = qs.map ptr ∧ Kp M X w u' ∧ Fr qs u u' ∧ Nb qs qs' u ∧ u.heap.size ≤ u'.heap.size := by
  have hi := hs.inv h0 e.gc e.cs hlim
  have hj' : j < (qs.map pcore).length := by simpa using hj
  obtain ⟨r, k, a, hrest⟩ := first_at hi e.gc e.cs hj' hb hk
  refine (move_c C M X f w p e u qs hf hkp hi j r k m key a hj hl hs.bd hm).mono ?_
  rintro e' u' ⟨qs', rfl, hf', hmv, hk', hfr, hnb⟩
  dsimp only at hf' hmv hfr hnb
  obtain ⟨hs', hmap⟩ := hs.step hi a hj hmv
  obtain ⟨l1, l2, l3⟩ := a.step hj' hb
  have hlen : qs'.length = qs.length := by
    have := congrArg List.length hmap
    rw [l1] at this
    simpa using this
  have hptr : qs'.map ptr = qs.map ptr := by
    unfold MvTo at hmv
    rw [if_neg a.ne] at hmv
    split at hmv
    · rw [hmv]
    · obtain ⟨S1, S2, rfl⟩ := hmv
      have hk2 : k < qs.length := by have := a.kl; simpa using this
      rw [List.map_set, List.map_set]
      have e1 : ptr (outP (qs.getD j zeroP) S1 ‹Nat›) = (qs.map ptr)[j]'(by simpa using hj) := by rw [List.getElem_map, ← getD_at hj]; rfl
      rw [e1, List.set_getElem_self]
      have e2 : ∀ x, ptr (inP (qs.getD k zeroP) S2 x) = (qs.map ptr)[k]'(by simpa using hk2) := fun x => by rw [List.getElem_map, ← getD_at hk2]; rfl
      rw [e2, List.set_getElem_self]
  refine ⟨qs', rfl, hf', hs', hlen, ?_, ?_, hptr, hkp.trans hk', hfr, hnb, hk'.size⟩
  · intro b hb'
    rw [hmap]; exact l3 b hb'
  · rw [hmap, l2]; exact hrest
theorem strs_at {w : World} {B : Nat} {a : Option Addr} {cap : Nat} {keys : List ByteArray} {q : Nat} (h : w.ownsRow B 9 1 (.slice a keys.length cap) keys.length (StringsW.flat keys)) (hq : q < keys.length) : ∃ g, a = some ⟨g, 0, none⟩ ∧ g < w.heap.size ∧ w.cell? ⟨g, q, none⟩ = some (.string (keys.getD q ByteArray.empty)) := by
  obtain ⟨g, c, hv, hb, _, hl⟩ := own_some h (by omega)
  simp only [Value.slice.injEq, true_and] at hv
  obtain ⟨rfl, rfl⟩ := hv
  refine ⟨g, rfl, hl, own_cells h ?_⟩
  unfold StringsW.flat
  rw [List.getElem?_map, List.getElem?_eq_getElem hq]
  simp [hq]
/-- The row of keys is no place's. -/
def Off (ka : Option Addr) (qs : List Pc) (u : World) : Prop := ∀ g, ka = some ⟨g, 0, none⟩ → g < u.heap.size ∧ ∀ p ∈ qs, g ∉ bks p
theorem own_off {u u' : World} {B n cap : Nat} {ka : Option Addr} {xs : List Value} {qs : List Pc} (h : u.ownsRow B 9 1 (.slice ka n cap) n xs) (ho : Off ka qs u) (hf : Fr qs u u') : u'.ownsRow B 9 1 (.slice ka n cap) n xs := by
  refine own_blocks h (fun g hg => ?_)
  rcases h.2 with ⟨hv, _⟩ | ⟨g', c, cur, hv, _⟩
  · rw [hv] at hg; simp [Value.ownBlock] at hg
  · simp only [Value.slice.injEq] at hv
    rw [hv.1] at hg
    have e : g' = g := by simpa [Value.ownBlock] using hg
    have h1 := ho g' hv.1
    rw [← e]
    exact hf g' h1.1 h1.2
theorem off_next {u u' : World} {ka : Option Addr} {qs qs' : List Pc} (ho : Off ka qs u) (hn : Nb qs qs' u) (hz : u.heap.size ≤ u'.heap.size) : Off ka qs' u' := by
  intro g hg
  obtain ⟨h1, h2⟩ := ho g hg
  refine ⟨by omega, fun p hp hm => ?_⟩
  rcases hn p hp g hm with ⟨q, hq, hb⟩ | h
  · exact h2 q hq hb
  · omega
theorem off_start {wr w1 : World} {M X : Nat} {f : Fl} {ka : Option Addr} {n cap : Nat} {xs : List Value} (hf : FleetAt wr M X f) (h : w1.ownsRow wr.heap.size 9 1 (.slice ka n cap) n xs) : Off ka f.ps w1 := by
  intro g hg
  have h1 := h.lt g (by rw [hg]; rfl)
  exact ⟨h1.2, fun p hp hm => by have := (hf.pl p hp).lt g hm; omega⟩

set_option maxRecDepth 10000 in
set_option maxHeartbeats 4000000 in
theorem moveSome_any (C : CC) (M X : Nat) (f : Fl) (p : Addr) (s0 : List Pls.Core) (many : Nat) (w : World) (he : Env C M X f w p) (h0 : Inv C s0) (hlim : 0 ≤ C.lim) (hf : FleetAt w M X f) (hs : Sv C s0 0 f.ps) (hl : f.ps.length ≤ 16) (hpos : 0 < f.ps.length) (hm : many ≤ 100) :
    Calls Tryz.prog 60 #[.pointer (some ⟨X, 0, none⟩), .int .i64 (many : Int)] w (MsEnd C M X f s0 many w) := by
  have HLE := hide (fun u qs (hf : FleetAt u M X { f with ps := qs }) (hk : Kp M X w u) (m : Nat) (hs : Sv C s0 m qs) j (hj : j < qs.length) (hl : qs.length ≤ 16) => leftAt_c C M X f w p he u qs hf hk (hs.inv h0 he.gc he.cs hlim) j hj hl)
  have HMO := hide (fun m qs (hs : Sv C s0 m qs) j (hj : j < qs.length) (hl : qs.length ≤ 16) (hm : m ≤ 100) (hb : Bef C qs j) key rest hk u hf hkp => one_move he h0 hlim hs hj hl hm hb (key := key) (rest := rest) hk u hf hkp)
  have HKL : Hid (∀ m qs, Sv C s0 m qs → ∀ j, j < qs.length → (lk C.cs ((qs.map pcore).getD j Pls.zeroC)).length ≤ 60) := fun m qs hs j hj => by
    have h1 := ((hs.inv h0 he.gc he.cs hlim).pl _ (gM (show j < (qs.map pcore).length by simpa using hj))).2.1
    unfold lk
    rw [List.length_map]
    exact Nat.le_trans (List.length_filter_le _ _) h1
  obtain ⟨g, hrr, hgl, hc⟩ := hf.head hpos
  have x8 := hf.box.cells.2.2.2.2.2.2.2.2
  rw [hrr] at x8
  have HROW : Hid (∀ k u qs, k < f.ps.length → FleetAt u M X { f with ps := qs } → qs.map ptr = f.ps.map ptr → u.cell? ⟨g, k, none⟩ = some (.pointer (some ⟨(qs.getD k zeroP).pb, 0, none⟩))) := fun k u qs hk hu hq => by
    have hql : qs.length = f.ps.length := by have := congrArg List.length hq; simpa using this
    have hrow := hu.row
    have hrv : rowV { f with ps := qs } = .slice (some ⟨g, 0, none⟩) f.ps.length f.cap := by
      unfold rowV at hrr ⊢
      rw [show ({ f with ps := qs } : Fl).ps.length = qs.length from rfl, hql]; exact hrr
    rw [hrv] at hrow
    have hrow' : u.ownsRow M 125 1 (.slice (some ⟨g, 0, none⟩) f.ps.length f.cap) f.ps.length (qs.map ptr) := by
      have : ({ f with ps := qs } : Fl).ps.length = f.ps.length := hql
      rw [this] at hrow; exact hrow
    exact own_cells hrow' (by rw [List.getElem?_map, List.getElem?_eq_getElem (show k < qs.length by omega), getD_at (show k < qs.length by omega)]; rfl)
  have HS := hide hs
  have HF := hide hf
  have HN : Hid (∀ qs : List Pc, qs.map ptr = f.ps.map ptr → qs.length = f.ps.length) := fun qs hq => by have := congrArg List.length hq; simpa using this
  generalize hn : f.ps.length = n at *
  clear hf hs hc hrr hn h0
  go_enter Tryz.func60, Tryz.ntmps60
  go_wp2_with fail
  go_loopw [5, 15] (fun mv iv wr => ∃ (j m : Nat) (qs : List Pc), j ≤ n ∧ iv = .int .i64 (j : Int) ∧ mv = .int .i64 (m : Int) ∧ m ≤ many ∧ Hid (FleetAt wr M X { f with ps := qs }) ∧ Hid (Sv C s0 m qs) ∧ Hid (Bef C qs j) ∧ Hid (qs.map ptr = f.ps.map ptr) ∧ Hid (Kp M X w wr)) (fun _ iv _ => n - (intOf iv).toNat)
  case atStart => exact ⟨0, 0, f.ps, Nat.zero_le _, rfl, rfl, Nat.zero_le _, HF, HS, hide (fun a ha => by omega), hide rfl, hide (Kp.refl _ _ _)⟩
  case round =>
    obtain ⟨j, m, qs, hj, rfl, rfl, hmm, hfa, hsv, hbe, hpt, hkp⟩ := hrel
    have hql := unhide HN qs (unhide hpt)
    by_cases hlt : j < n
    case neg =>
      obtain rfl : j = n := by omega
      have HNO : Hid (noneB C.cs (qs.map pcore) = true) := Bef.all (by rw [hql]; exact unhide hbe)
      go_wp2
      go_ret
      exact ⟨m, qs, rfl, unhide hfa, unhide hsv, hmm, .inr (unhide HNO), unhide hkp⟩
    have r0 := unhide HROW j wr qs hlt (unhide hfa) (unhide hpt)
    have HCL := hide (unhide HLE wr qs (unhide hfa) (unhide hkp) m (unhide hsv) j (by omega) (by omega))
    obtain ⟨K, hK⟩ : ∃ K, K = lk C.cs ((qs.map pcore).getD j Pls.zeroC) := ⟨_, rfl⟩
    have hKl : K.length ≤ 60 := by rw [hK]; exact unhide HKL m qs (unhide hsv) j (by omega)
    rw [← hK] at HCL
    have HK := hide hK
    clear hK
    generalize (qs.getD j zeroP).pb = pb at r0 HCL
    go_wp2_with fail
    refine (unhide HCL).mono ?_
    rintro e w1 ⟨ka, kc, rfl, ho1, hb1⟩
    have F1 := hide ((unhide hfa).below hb1)
    have OF1 : Hid (Off ka qs w1) := off_start (unhide hfa) ho1
    have K1 := hide ((unhide hkp).trans (Kp.of_below hb1 (Nat.le_trans he.mw (unhide hkp).size)))
    have O1 := hide ho1
    have hMw : M ≤ wr.heap.size := Nat.le_trans he.mw (unhide hkp).size
    clear hb1 ho1 HCL r0 hfa hkp
    obtain ⟨z0, hz0⟩ : ∃ z, z = wr.heap.size := ⟨_, rfl⟩
    rw [← hz0] at O1
    clear hz0
    generalize hnk : K.length = nk at *
    have HNK := hide hnk
    clear hnk
    go_wp2_with fail
    go_loopw [5, 23] (fun mv qv wz => ∃ (q m : Nat) (qs : List Pc), q ≤ nk ∧ qv = .int .i64 (q : Int) ∧ mv = .int .i64 (m : Int) ∧ m ≤ many ∧ Hid (FleetAt wz M X { f with ps := qs }) ∧ Hid (Sv C s0 m qs) ∧ Hid (Bef C qs j) ∧ Hid (qs.map ptr = f.ps.map ptr) ∧ Hid (Kp M X w wz) ∧ Hid (lk C.cs ((qs.map pcore).getD j Pls.zeroC) = K.drop q) ∧ Hid (wz.ownsRow z0 9 1 (.slice ka nk kc) nk (StringsW.flat K)) ∧ Hid (Off ka qs wz)) (fun _ qv _ => nk - (intOf qv).toNat)
    case atStart => exact ⟨0, m, qs, Nat.zero_le _, rfl, rfl, hmm, F1, hsv, hbe, hpt, K1, hide (by rw [List.drop_zero]; exact (unhide HK).symm), O1, OF1⟩
    case round =>
      clear hsv hbe hpt F1 K1 O1 OF1 HK hmm hql hMw
      obtain ⟨q, m, qs, hq, rfl, rfl, hmm, hfa, hsv, hbe, hpt, hkp, hlk, how, hoff⟩ := hrel
      obtain ⟨wz, hname⟩ : ∃ v, v = wr := ⟨_, rfl⟩
      subst hname
      have hql := unhide HN qs (unhide hpt)
      by_cases hqlt : q < nk
      case neg =>
        obtain rfl : q = nk := by omega
        have HBN : Hid (Bef C qs (j + 1)) := (unhide hbe).next (by rw [unhide hlk, ← unhide HNK, List.drop_length])
        go_wp2
        go_roundw
        case rel => exact ⟨j + 1, m, qs, by omega, by go_num, rfl, hmm, hfa, hsv, HBN, hpt, hkp⟩
        case measure => simp [intOf]; omega
      have hqK : q < K.length := by rw [unhide HNK]; exact hqlt
      have how2 : wz.ownsRow z0 9 1 (.slice ka K.length kc) K.length (StringsW.flat K) := by rw [unhide HNK]; exact unhide how
      obtain ⟨kg, rfl, hkl, k0⟩ := strs_at how2 hqK
      have HDR : Hid (lk C.cs ((qs.map pcore).getD j Pls.zeroC) = K.getD q ByteArray.empty :: K.drop (q + 1)) := by
        show _ = _
        rw [unhide hlk, List.drop_eq_getElem_cons hqK]
        simp [hqK]
      by_cases hmany : m = many
      · have hd1 : ((m : Int) == (many : Int)) = true := by simp [hmany]
        have hd2 : decide ((m : Int) = (many : Int)) = true := by simp [hmany]
        clear how2 HMO HLE
        generalize K.getD q ByteArray.empty = key at k0
        go_wp2
        go_ret
        exact ⟨m, qs, rfl, unhide hfa, unhide hsv, hmm, .inl hmany, unhide hkp⟩
      · have hd1 : ((m : Int) == (many : Int)) = false := by simp; omega
        have hd2 : decide ((m : Int) = (many : Int)) = false := by simp; omega
        have HMC := hide (unhide HMO m qs (unhide hsv) j (by omega) (by omega) (by omega) (unhide hbe) _ _ (unhide HDR) wz (unhide hfa) (unhide hkp))
        have hwm : IntKind.i64.wrap ((m : Int) + 1) = (m : Int) + 1 := by rw [IntKind.wrap_i64]; omega
        generalize K.getD q ByteArray.empty = key at k0 HMC
        have hm1 : m + 1 ≤ many := by omega
        have hq1 : q + 1 ≤ nk := by omega
        clear how2 HDR
        go_wp2_with fail
        refine (unhide HMC).mono ?_
        rintro e w2 ⟨qs', rfl, hf2, hs2, hl2, hb2, hlk2, hpt2, hk2, hfr2, hnb2, hz2⟩
        have F2 := hide hf2
        have S2 := hide hs2
        have B2 := hide hb2
        have L2 := hide hlk2
        have P2 := hide (hpt2.trans (unhide hpt))
        have K2 := hide hk2
        have O2 := hide (own_off (unhide how) (unhide hoff) hfr2)
        have OF2 : Hid (Off (some ⟨kg, 0, none⟩) qs' w2) := off_next (unhide hoff) hnb2 hz2
        clear hf2 hs2 hb2 hlk2 hpt2 hk2 HMC hl2 hfr2 hnb2 hz2
        go_wp2
        go_roundw
        case rel => exact ⟨q + 1, m + 1, qs', hq1, by go_num, by go_num, hm1, F2, S2, B2, P2, K2, L2, O2, OF2⟩
        case measure => simp [intOf]; omega
end Fleet
end Go.Proofs.YtjgfedmgmfpapaaGreatDoor
/-
  The program's (*fleet).dropOld: in every place what is old goes.
-/
namespace Go.Proofs.YtjgfedmgmfpapaaGreatDoor
namespace Fleet
open Go.RowKit Base Store Items OwnR Keep Clus Marks Plc
set_option linter.unusedVariables false

/-- The first k places have let go what is old; the others are as they were. -/
def DropTo (ps : List Pc) (now : Int) (k : Nat) (qs : List Pc) : Prop :=
  qs.length = ps.length ∧ ∀ i, i < ps.length → (i < k → ∃ S, qs.getD i zeroP = upd (ps.getD i zeroP) S (ps.getD i zeroP).lim (ps.getD i zeroP).nx (ps.getD i zeroP).lost (keepB (ps.getD i zeroP).its now)) ∧ (k ≤ i → qs.getD i zeroP = ps.getD i zeroP)
theorem drop_start (ps : List Pc) (now : Int) : DropTo ps now 0 ps := ⟨rfl, fun i hi => ⟨fun h => by omega, fun _ => rfl⟩⟩
theorem DropTo.step {ps qs : List Pc} {now : Int} {k : Nat} {S : List Nat} (h : DropTo ps now k qs) (hk : k < ps.length) :
    DropTo ps now (k + 1) (qs.set k (upd (qs.getD k zeroP) S (qs.getD k zeroP).lim (qs.getD k zeroP).nx (qs.getD k zeroP).lost (keepB (qs.getD k zeroP).its now))) := by
  obtain ⟨h1, h2⟩ := h
  have hq : qs.getD k zeroP = ps.getD k zeroP := (h2 k hk).2 (Nat.le_refl _)
  refine ⟨by rw [List.length_set, h1], fun i hi => ?_⟩
  have hg : (qs.set k (upd (qs.getD k zeroP) S (qs.getD k zeroP).lim (qs.getD k zeroP).nx (qs.getD k zeroP).lost (keepB (qs.getD k zeroP).its now))).getD i zeroP = if i = k then upd (qs.getD k zeroP) S (qs.getD k zeroP).lim (qs.getD k zeroP).nx (qs.getD k zeroP).lost (keepB (qs.getD k zeroP).its now) else qs.getD i zeroP := by
    simp only [List.getD_eq_getElem?_getD]
    by_cases e : i = k
    · subst e; rw [List.getElem?_set_self (by omega)]; simp
    · rw [List.getElem?_set_ne (fun e' => e e'.symm), if_neg e]
  rw [hg]
  by_cases e : i = k
  · subst e
    rw [if_pos rfl, hq]
    exact ⟨fun _ => ⟨S, rfl⟩, fun h => by omega⟩
  · rw [if_neg e]
    exact ⟨fun h => (h2 i hi).1 (by omega), fun h => (h2 i hi).2 (by omega)⟩
/-- How (*fleet).dropOld ends. -/
def DrEnd (M X : Nat) (f : Fl) (w : World) (e : Ending) (w' : World) : Prop := ∃ qs, e = .returned (.tuple #[]) ∧ FleetAt w' M X { f with ps := qs } ∧ DropTo f.ps f.now f.ps.length qs ∧ Kp M X w w'

set_option maxRecDepth 10000 in
set_option maxHeartbeats 2000000 in
theorem dropOld_any (M X : Nat) (f : Fl) (w : World) (hf : FleetAt w M X f) (hpos : 0 < f.ps.length) (hl : f.ps.length ≤ 1000) (hi : ∀ p ∈ f.ps, p.its.length ≤ 100) (hM : M ≤ w.heap.size) :
    Calls Tryz.prog 59 #[.pointer (some ⟨X, 0, none⟩)] w (DrEnd M X f w) := by
  obtain ⟨g, hr, hgl, hc⟩ := hf.head hpos
  have HF := hide hf
  have HI := hide (fun k (hk : k < f.ps.length) => hi _ (getD_mem hk))
  have x8 := hf.box.cells.2.2.2.2.2.2.2.2
  rw [hr] at x8
  have HR := hide hr
  generalize hn : f.ps.length = n at *
  have HN := hide hn
  clear hf hc hi hr hn
  go_enter Tryz.func59, Tryz.ntmps59
  go_wp2_with fail
  go_loopw [9] (fun iv wr => ∃ (k : Nat) (qs : List Pc), k ≤ n ∧ iv = .int .i64 (k : Int) ∧ Hid (FleetAt wr M X { f with ps := qs }) ∧ Hid (DropTo f.ps f.now k qs) ∧ Hid (Kp M X w wr)) (fun iv _ => n - (intOf iv).toNat)
  case atStart => exact ⟨0, f.ps, Nat.zero_le _, rfl, HF, hide (drop_start _ _), hide (Kp.refl _ _ _)⟩
  case round =>
    obtain ⟨k, qs, hk, rfl, hfa, hdr, hkp⟩ := hrel
    by_cases hlt : k < n
    · have hkf : k < f.ps.length := by rw [unhide HN]; exact hlt
      have hql : qs.length = f.ps.length := (unhide hdr).1
      have hkq : k < qs.length := by omega
      have hqe : qs.getD k zeroP = f.ps.getD k zeroP := ((unhide hdr).2 k hkf).2 (Nat.le_refl _)
      have hil : (qs.getD k zeroP).its.length ≤ 100 := by rw [hqe]; exact unhide HI k hlt
      have hrow := (unhide hfa).row
      have hrv : rowV { f with ps := qs } = .slice (some ⟨g, 0, none⟩) n f.cap := by
        have := unhide HR
        unfold rowV at this ⊢
        rw [show ({ f with ps := qs } : Fl).ps.length = qs.length from rfl, hql]; rw [unhide HN] at this ⊢; exact this
      rw [hrv] at hrow
      have r0 : wr.cell? ⟨g, k, none⟩ = some (.pointer (some ⟨(qs.getD k zeroP).pb, 0, none⟩)) := by
        have hl' : ({ f with ps := qs } : Fl).ps.length = n := by show qs.length = n; rw [hql]; exact unhide HN
        rw [hl'] at hrow
        exact own_cells hrow (by show (qs.map ptr)[k]? = _; rw [List.getElem?_map, List.getElem?_eq_getElem hkq, getD_at hkq]; rfl)
      have hpc := (unhide hfa).pl _ (getD_mem hkq)
      obtain ⟨b0, b1⟩ := hpc.box.cells
      have n0 := (unhide hfa).box.cells.1
      have hMr : M ≤ wr.heap.size := Nat.le_trans hM (unhide hkp).size
      have HDS : Hid (∀ u, Below wr.heap.size wr u → Calls Tryz.prog 102 #[.pointer (some ⟨(qs.getD k zeroP).hb, 0, none⟩), .int .i64 f.now] u fun e u' => ∃ v, e = .returned (.int .i64 v) ∧ _root_.Go.Proofs.YtjgfedmgmfpapaaGreatDoor.Shelf.Step u u' (qs.getD k zeroP).hb (qs.getD k zeroP).S (qs.getD k zeroP).lim (qs.getD k zeroP).nx (qs.getD k zeroP).lost (keepB (qs.getD k zeroP).its f.now)) := fun u hu =>
        (_root_.Go.Proofs.YtjgfedmgmfpapaaGreatDoor.Shelf.dropOld_shelf u _ _ _ _ _ _ f.now (hpc.sh.below hu) hil).mono (fun e u' ⟨he, hs⟩ => ⟨_, he, hs⟩)
      have HST := hide (fun u u' (hu : Below wr.heap.size wr u) h => ((unhide hfa).below hu).step (k := k) (w' := u') hkq (lim := (qs.getD k zeroP).lim) (nx := (qs.getD k zeroP).nx) (lost := (qs.getD k zeroP).lost) (its := keepB (qs.getD k zeroP).its f.now) (Nat.le_trans hMr hu.size) h)
      have HDN := hide (fun S => (unhide hdr).step (S := S) hkf)
      clear hpc hrow hrv hqe hql hkq hil hkf
      dsimp only at r0 b0 n0 HDS HST HDN
      generalize hpp : qs.getD k zeroP = p at r0 b0 HDS HST HDN
      have hpl : p.pb < wr.heap.size := block_lt_of_cell b0
      clear hpp b1
      go_wp2_with fail
      go_region_with (go_at_call 102; refine (unhide HDS _ ((Below.refl _ _).drew)).mono ?_; rintro e w1 ⟨v, rfl, hst⟩; have HS1 := hide hst; clear hst)
      all_goals
        obtain ⟨S', hfn, hkn⟩ := unhide HST _ _ ((Below.refl _ _).drew) (unhide HS1)
        have FN := hide hfn
        have KN := hide (((unhide hkp).trans (Kp.of_below ((Below.refl _ _).drew) hMr)).trans hkn)
        have DN := hide (unhide HDN S')
        clear hfn hkn HS1
        go_wp2
        go_roundw
        case rel => exact ⟨k + 1, _, by omega, by go_num, FN, DN, KN⟩
        case measure => simp [intOf]; omega
    · obtain rfl : k = n := by omega
      go_wp2
      go_end0
      exact ⟨qs, rfl, unhide hfa, by rw [unhide HN]; exact unhide hdr, unhide hkp⟩
end Fleet
end Go.Proofs.YtjgfedmgmfpapaaGreatDoor
/-
  What CopySome tells, plainly. No Go function is spoken of here.
-/
namespace Go.Proofs.YtjgfedmgmfpapaaGreatDoor
namespace Mv
open Go.RowKit Base Store Items OwnR Keep Clus Marks Plc
set_option linter.unusedVariables false

def t0 (C : CC) : List Pls.Core × Nat := (C.ps.map (dropC C.now), 0)
/-- The cluster behind m moves. -/
def csC (C : CC) (m : Nat) : CC := ⟨C.now, C.nx, C.lim, min (C.lost + ((mvN C.cs m (t0 C)).2 : Nat)) 1000000, C.ns, C.cs, (mvN C.cs m (t0 C)).1⟩
/-- What CopySome tells. -/
def csR (C : CC) (many : Int) : CC × Int × Bool :=
  if (gcB C && decide (C.cs.length ≠ 0) && GoodKey.inB many 0 100) = true then (csC C (cnt C.cs many.toNat (t0 C)), ((cnt C.cs many.toNat (t0 C) : Nat) : Int), true) else (noCC, 0, false)
theorem cs_bad {C : CC} {many : Int} (h : gcB C = false) : csR C many = (noCC, 0, false) := by unfold csR; simp [h]
theorem cs_still {C : CC} {many : Int} (h : C.cs.length = 0) : csR C many = (noCC, 0, false) := by unfold csR; simp [h]
theorem cs_out {C : CC} {many : Int} (h : GoodKey.inB many 0 100 = false) : csR C many = (noCC, 0, false) := by unfold csR; simp [h]
theorem cs_yes {C : CC} {many m : Nat} (h1 : gcB C = true) (h2 : C.cs.length ≠ 0) (h3 : many ≤ 100) (hm : m ≤ many) (hn : ∀ j, j < m → noneB C.cs (mvN C.cs j (t0 C)).1 = false) (he : m = many ∨ noneB C.cs (mvN C.cs m (t0 C)).1 = true) : csR C (many : Int) = (csC C m, ((m : Nat) : Int), true) := by
  have e : cnt C.cs many (t0 C) = m := cnt_is C.cs many m (t0 C) hm hn he
  have h4 : GoodKey.inB (many : Int) 0 100 = true := by simp only [GoodKey.inB, Bool.and_eq_true, decide_eq_true_eq]; omega
  unfold csR
  rw [h1, h4, decide_eq_true h2, Int.toNat_natCast, e]
  rfl
end Mv
end Go.Proofs.YtjgfedmgmfpapaaGreatDoor
/-
  What a step makes of a good cluster at work, plainly. No Go function is spoken of here.
-/
namespace Go.Proofs.YtjgfedmgmfpapaaGreatDoor
namespace Fleet
open Go.RowKit Base Store Items OwnR Keep Clus Marks Plc
set_option linter.unusedVariables false

/-- How a function ends that tells a cluster, a number and a yes. -/
def Tells3 (R : CC × Int × Bool) (w : World) (e : Ending) (w' : World) : Prop := ∃ c : Cl, e = .returned (.tuple #[clV c, .int .i64 R.2.1, .bool R.2.2]) ∧ plain c = R.1 ∧ CO w' w.heap.size c ∧ AP c ∧ Below w.heap.size w w'
theorem tells3_no {R : CC × Int × Bool} {w w' : World} (h : R = (noCC, 0, false)) (hb : Below w.heap.size w w') : Tells3 R w (.returned (.tuple #[.agg #[.int .i64 0, .int .i64 0, .int .i64 0, .int .i64 0, .slice none 0 0, .slice none 0 0, .slice none 0 0], .int .i64 0, .bool false])) w' := by
  subst h
  exact ⟨noCl, rfl, rfl, CO.no w' _, ⟨fun q h => by simp [noCl, Value.ownBlock] at h, List.Pairwise.nil⟩, hb⟩
/-- How a function ends that tells a cluster and a yes. -/
def Tells2 (R : CC × Bool) (w : World) (e : Ending) (w' : World) : Prop := ∃ c : Cl, e = .returned (.tuple #[clV c, .bool R.2]) ∧ plain c = R.1 ∧ CO w' w.heap.size c ∧ AP c ∧ Below w.heap.size w w'
/-- What a step leaves where it says yes: a cluster at work that can be told. -/
structure Left (M X : Nat) (R : CC × Int × Bool) (n : Int) (u' : World) : Prop where
  ex : ∃ (f : Fl) (na ca : Option Addr) (nc cc : Nat) (ns cs : List Nodes.D), FleetAt u' M X f ∧ f.v4 = .slice na ns.length nc ∧ f.v5 = .slice ca cs.length cc ∧ Nodes.LAt u' na ns ∧ Nodes.LAt u' ca cs ∧ ns.length ≤ 1000 ∧ cs.length ≤ 1000 ∧ (∀ x ∈ ns, x.name.size ≤ 1048576) ∧ (∀ x ∈ cs, x.name.size ≤ 1048576) ∧ Fine f ∧ R = (⟨f.now, f.nx, f.lim, lostTo f.lost f.ps, ns, cs, f.ps.map pcore⟩, n, true)
/-- How a step ends. -/
def StepTo (M X : Nat) (R : CC × Int × Bool) (u : World) (e : Ending) (u' : World) : Prop :=
  ∃ (n : Int) (ok : Bool), e = .returned (.tuple #[.int .i64 n, .bool ok]) ∧ Kp M X u u' ∧ ((ok = false ∧ R = (noCC, 0, false)) ∨ (ok = true ∧ Left M X R n u'))

end Fleet
end Go.Proofs.YtjgfedmgmfpapaaGreatDoor
