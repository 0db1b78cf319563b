/-
  The program's shelf: makeRoom, keep.
-/
import Derived.Test.YthlcmnjaimffdaaGreatDoorShelfTG
import Derived.Test.YthlcmnjaimffdaaGreatDoorRowed
import Derived.BigQuiet
import Derived.Deep.QuietTactic
import Derived.Test.YthlcmnjaimffdaaGreatDoorChainA
import Derived.WalkLawsBesides
import Derived.Deep.DeepCutAuto
import Derived.Lib.QuietBelow
namespace Go.Proofs.YthlcmnjaimffdaaGreatDoor
namespace Shelf
open Go.RowKit Base Items Keep Own Chain Store GoodKey
set_option linter.unusedVariables false

theorem box_set3 {w : World} {hb : Nat} {h : Hd} {vl vf : Value} (hB : Box w hb h vl vf) (c : Int) : Box (w.setCell ⟨hb, 3, none⟩ (.int .i64 c)) hb { h with lost := c } vl vf := by unfold Box at *; simp [World.setCell, Array.getElem?_modify, hB]
theorem box_set1 {w : World} {hb : Nat} {h : Hd} {vl vf : Value} (hB : Box w hb h vl vf) (c : Int) : Box (w.setCell ⟨hb, 1, none⟩ (.int .i64 c)) hb { h with nx := c } vl vf := by unfold Box at *; simp [World.setCell, Array.getElem?_modify, hB]
theorem setLost {w : World} {hb : Nat} {S : List Nat} {lim nx lost : Int} {its : List Itm} (h : Shelf w hb S lim nx lost its) (c : Int) : Shelf (w.setCell ⟨hb, 3, none⟩ (.int .i64 c)) hb S lim nx c its := by
  obtain ⟨gl, gf, bm, ls, free, order, cl, vf, D, hp⟩ := h
  exact ⟨gl, gf, bm, ls, free, order, cl, vf, D, mem_set hp.mem (box_set3 hp.mem.box c), hp.good, hp.items, hp.len, hp.own.setCell hp.m1 _, hp.map, hp.m1, hp.m2, hp.m3, hp.blocks, hp.keys, hp.small⟩
theorem setNext {w : World} {hb : Nat} {S : List Nat} {lim nx lost : Int} {its : List Itm} (h : Shelf w hb S lim nx lost its) (c : Int) : Shelf (w.setCell ⟨hb, 1, none⟩ (.int .i64 c)) hb S lim c lost its := by
  obtain ⟨gl, gf, bm, ls, free, order, cl, vf, D, hp⟩ := h
  exact ⟨gl, gf, bm, ls, free, order, cl, vf, D, mem_set hp.mem (box_set1 hp.mem.box c), hp.good, hp.items, hp.len, hp.own.setCell hp.m1 _, hp.map, hp.m1, hp.m2, hp.m3, hp.blocks, hp.keys, hp.small⟩
theorem shelf_in {w : World} {hb : Nat} {S : List Nat} {lim nx lost : Int} {its : List Itm} (h : Shelf w hb S lim nx lost its) : hb ∈ S ∧ hb < w.heap.size := by
  obtain ⟨gl, gf, bm, ls, free, order, cl, vf, D, hp⟩ := h
  exact ⟨by rw [hp.blocks]; simp, hp.mem.box.lt⟩
/-- What can be read of a shelf. -/
theorem shelf_reads {w : World} {hb : Nat} {S : List Nat} {lim nx lost : Int} {its : List Itm} (h : Shelf w hb S lim nx lost its) :
    w.cell? ⟨hb, 0, none⟩ = some (.int .i64 lim) ∧ w.cell? ⟨hb, 1, none⟩ = some (.int .i64 nx) ∧ w.cell? ⟨hb, 2, none⟩ = some (.int .i64 (total its)) ∧ w.cell? ⟨hb, 3, none⟩ = some (.int .i64 lost) ∧
    (∀ o, w.frozen? ⟨hb, o, none⟩ = false) ∧ ∃ bm, w.cell? ⟨hb, 6, none⟩ = some (.map (some bm)) ∧ ∀ w', Keeps [] w w' → ∀ ty, (Builtin.len_ #[61] ty #[.map (some bm)]).run Tryz.prog w' = .ok (.int .i64 (its.length : Nat)) w' := by
  obtain ⟨gl, gf, bm, ls, free, order, cl, vf, D, hp⟩ := h
  obtain ⟨c0, c1, c2, c3, c4, c5, c6⟩ := hp.mem.box.cells
  refine ⟨c0, c1, c2, c3, hp.mem.box.frozen, bm, c6, fun w' hk ty => ?_⟩
  have h1 := (hk.map hp.own (by simp)).len Tryz.underlying61 ty
  rw [hp.map.size, ← items_len ls order, hp.items] at h1
  exact h1
theorem drop_keys {its : List Itm} (h : (its.map Itm.key).Nodup) {k : Nat} (hk : k < its.length) : atN (its.drop k) (its.getD k zero).key = some 0 ∧ (its.drop k).eraseIdx 0 = its.drop (k + 1) := by
  have e : its.drop k = [] ++ its.getD k zero :: its.drop (k + 1) := by
    rw [List.drop_eq_getElem_cons hk, List.getD_eq_getElem?_getD, List.getElem?_eq_getElem hk]; rfl
  refine ⟨?_, ?_⟩
  · have hs : ((its.drop k).map Itm.key).Nodup := h.sublist ((List.drop_sublist k its).map _)
    rw [e] at hs ⊢
    exact at_mid hs
  · rw [e]; rfl

theorem step_more {w w1 w2 : World} {hb : Nat} {S : List Nat} {lim nx lost : Int} {its : List Itm} (h : Step w w1 hb S lim nx lost its) (hk : Keeps [] w1 w2) : Step w w2 hb S lim nx lost its := by
  obtain ⟨S', hs, hS, hk1⟩ := h
  exact ⟨S', hs.keep hk (by simp), hS, hk1.trans hk (by simp)⟩
theorem step_lost {w w1 : World} {hb : Nat} {S : List Nat} {lim nx lost : Int} {its : List Itm} (h : Step w w1 hb S lim nx lost its) (hin : hb ∈ S) (c : Int) : Step w (w1.setCell ⟨hb, 3, none⟩ (.int .i64 c)) hb S lim nx c its := by
  obtain ⟨S', hs, hS, hk1⟩ := h
  exact ⟨S', setLost hs c, hS, hk1.setCell (.inl hin) _⟩
theorem step_next {w w1 : World} {hb : Nat} {S : List Nat} {lim nx lost : Int} {its : List Itm} (h : Step w w1 hb S lim nx lost its) (hin : hb ∈ S) (c : Int) : Step w (w1.setCell ⟨hb, 1, none⟩ (.int .i64 c)) hb S lim c lost its := by
  obtain ⟨S', hs, hS, hk1⟩ := h
  exact ⟨S', setNext hs c, hS, hk1.setCell (.inl hin) _⟩

set_option maxRecDepth 10000 in
set_option maxHeartbeats 2000000 in
theorem makeRoom_shelf (w : World) (hb : Nat) (S : List Nat) (lim nx lost : Int) (its : List Itm) (hs : Shelf w hb S lim nx lost its) (hl : its.length ≤ 100) (hlo : 0 ≤ lost ∧ lost ≤ 1000) :
    Calls Tryz.prog 101 #[.pointer (some ⟨hb, 0, none⟩)] w fun e w' => e = .returned (.tuple #[]) ∧ Step w w' hb S lim nx (lost + trimN lim its) (its.drop (trimN lim its)) := by
  have HS := hide hs
  have hks := hide (shelf_keys hs)
  have hSl := hide hs.lt
  obtain ⟨gl, gf, bm, ls, free, order, cl, vf, D, hp⟩ := hs
  have hol : order.length = its.length := by rw [← hp.items, items_len]
  have hval := fun w' (hk : Below w.heap.size w w') => values_any w' hb _ gl gf ls free order cl vf (hp.keep (Keeps.of_below (S := []) hk (fun _ h1 _ => h1)) (by simp)).mem hp.good (by have := hp.len; omega)
  rw [hp.items, hol] at hval
  have HV := hide hval
  clear hval hp
  go_enter Tryz.func101, Tryz.ntmps101
  go_wp2_with fail
  refine (unhide HV _ (Below.refl _ _)).mono ?_
  rintro e w1 ⟨va, vc, rfl, hown, hb1⟩
  have HO := hide hown
  have HB1 := hide hb1
  have HS1 := hide ((unhide HS).below hb1)
  clear hown hb1 HV
  have hz1 : w.heap.size ≤ w1.heap.size := (unhide HB1).size
  go_wp2_with fail
  go_loopw [9] (fun i wr => ∃ (k : Nat), k ≤ its.length ∧ i = .int .i64 k ∧ Hid (trimN lim its = k + trimN lim (its.drop k)) ∧ Hid (Step w1 wr hb S lim nx (lost + k) (its.drop k))) (fun i _ => its.length - (intOf i).toNat)
  case atStart => exact ⟨0, Nat.zero_le _, rfl, hide (by simp), hide (by simpa using step_refl (unhide HS1))⟩
  case round =>
    obtain ⟨k, hk, rfl, htr, hst⟩ := hrel
    have hfin : Hid (∀ n, trimN lim its = n → n = k → Step w wr hb S lim nx (lost + trimN lim its) (its.drop (trimN lim its))) := by
      intro n hn hnk
      have h1 := unhide hst
      rw [hn, hnk]
      exact step_go (Keeps.of_below (unhide HB1) (fun k h1 _ => h1)) (fun b hb' => .inl hb') h1
    obtain ⟨Sk, hsk, hSk, hkk⟩ := unhide hst
    by_cases hlt : k < its.length
    · obtain ⟨g, cap, hva, hg, hrow⟩ := Row.of_owns (unhide HO) (by omega)
      simp only [Value.slice.injEq, true_and] at hva
      obtain ⟨rfl, rfl⟩ := hva
      have hgS : g ∉ S := fun hm => by have := unhide hSl g hm; omega
      have hrow2 := hrow.keep hkk hgS
      obtain ⟨c0, c1, c2, c3, c4⟩ := row_at hrow2 hlt
      obtain ⟨r0, r1, r2, r3, rf, bm', r6, hlen⟩ := shelf_reads hsk
      have hst' := hide (@trimN_step lim its k hlt)
      have hfit := hide (@trimN_fit lim (its.drop k))
      have hkd := hide (drop_keys (unhide hks).1 hlt)
      have hsm := hide (small_getD (unhide hks).2 k hlt)
      have htb := total_small (its := its.drop k) (fun x hx => (unhide hks).2 x (List.mem_of_mem_drop hx)) (by simp; omega)
      have hdl : (its.drop k).length = its.length - k := by simp
      have hwl := (shelf_in hsk).2
      have HSK := hide hsk
      have HSS := hide hSk
      have HKK := hide hkk
      clear hrow hrow2 hsk hSk hkk hst
      rw [hdl] at hlen
      obtain ⟨nn, hnn⟩ : ∃ nn, its.length - k = nn := ⟨_, rfl⟩
      rw [hnn] at hlen
      have hfb : fitsB lim (its.drop k) = (decide (total (its.drop k) ≤ lim) && decide ((nn : Int) ≤ 60)) := by unfold fitsB; rw [hdl, hnn]
      generalize its.getD k zero = x at c0 c1 c2 c3 c4 hkd hsm
      generalize htt : total (its.drop k) = t at r2 htb hfb
      have hlen2 := hlen _ ((Keeps.refl [] wr).alloc (.cells #[.string x.key, .int .i64 x.flags, .string x.data, .int .i64 x.upto, .int .i64 x.token] 71)).drew
      clear hlen
      by_cases q1 : t ≤ lim
      · by_cases q2 : (nn : Int) ≤ 60
        · have H : Hid (trimN lim its = k) := by
            show trimN lim its = k
            rw [unhide htr, unhide hfit (by rw [hfb, decide_eq_true q1, decide_eq_true q2]; rfl)]; rfl
          have HF := hide (unhide hfin k (unhide H) rfl)
          have d1 : decide (t ≤ lim) = true := decide_eq_true q1
          clear hfin htr hfb
          go_wp2_with fail
          go_region
          go_wp2
          exact bodyPost_ret (v := .tuple #[]) (by simp [results, Tryz.results101, go_sem]) rfl ⟨rfl, step_more (unhide HF) ((Keeps.refl [] wr).alloc _).drew⟩
        · have H := hide (unhide hst' (by rw [hfb, decide_eq_false q2]; simp))
          clear hfin hfb
          go_wp2_with fail
          go_region
          go_wp2_with fail
          refine (take_some _ hb Sk lim nx (lost + k) (its.drop k) x.key 0 ((unhide HSK).keep ((Keeps.refl [] wr).alloc _).drew (by simp)) (by simp; omega) (by have := (unhide hsm).1; unfold maxLen; omega) (unhide hkd).1).mono ?_
          rintro e w3 ⟨rfl, hst3⟩
          rw [(unhide hkd).2] at hst3
          have hst4 := step_go ((unhide HKK).trans (((Keeps.refl [] wr).alloc (.cells #[.string x.key, .int .i64 x.flags, .string x.data, .int .i64 x.upto, .int .i64 x.token] 71)).drew) (by simp)) (unhide HSS) hst3
          have hin := hide (shelf_in (unhide HS)).1
          have HL := hide (step_lost hst4 (unhide hin) (lost + k + 1))
          obtain ⟨S4, hs4, -, -⟩ := hst4
          obtain ⟨y0, y1, y2, y3, yf, bm4, y6, -⟩ := shelf_reads hs4
          clear hst3 hs4 r0 r1 r2 r3 rf r6 hlen2 y0 y1 y2 y6
          go_wp2
          go_roundw
          case rel =>
            refine ⟨k + 1, by omega, by go_num, hide ?_, hide ?_⟩
            · have := unhide htr; have := unhide H; omega
            · have e : lost + ((k + 1 : Nat) : Int) = lost + k + 1 := by omega
              rw [e]; exact unhide HL
          case measure => simp [intOf]; omega
      · have H := hide (unhide hst' (by rw [hfb, decide_eq_false q1]; simp))
        have d1 : decide (t ≤ lim) = false := decide_eq_false q1
        clear hfin hfb
        go_wp2_with fail
        go_region
        go_wp2_with fail
        refine (take_some _ hb Sk lim nx (lost + k) (its.drop k) x.key 0 ((unhide HSK).keep ((Keeps.refl [] wr).alloc _).drew (by simp)) (by simp; omega) (by have := (unhide hsm).1; unfold maxLen; omega) (unhide hkd).1).mono ?_
        rintro e w3 ⟨rfl, hst3⟩
        rw [(unhide hkd).2] at hst3
        have hst4 := step_go ((unhide HKK).trans (((Keeps.refl [] wr).alloc (.cells #[.string x.key, .int .i64 x.flags, .string x.data, .int .i64 x.upto, .int .i64 x.token] 71)).drew) (by simp)) (unhide HSS) hst3
        have hin := hide (shelf_in (unhide HS)).1
        have HL := hide (step_lost hst4 (unhide hin) (lost + k + 1))
        obtain ⟨S4, hs4, -, -⟩ := hst4
        obtain ⟨y0, y1, y2, y3, yf, bm4, y6, -⟩ := shelf_reads hs4
        clear hst3 hs4 r0 r1 r2 r3 rf r6 hlen2 y0 y1 y2 y6
        go_wp2
        go_roundw
        case rel =>
          refine ⟨k + 1, by omega, by go_num, hide ?_, hide ?_⟩
          · have := unhide htr; have := unhide H; omega
          · have e : lost + ((k + 1 : Nat) : Int) = lost + k + 1 := by omega
            rw [e]; exact unhide HL
        case measure => simp [intOf]; omega
    · obtain rfl : k = its.length := by omega
      have H : Hid (trimN lim its = its.length) := by
        have := unhide htr
        rw [List.drop_eq_nil_of_le (Nat.le_refl _)] at this
        exact this
      have HF := hide (unhide hfin _ (unhide H) rfl)
      clear hfin htr hst hsk hSk hkk
      go_wp2
      exact bodyPost_end (v := .tuple #[]) (by simp [results, Tryz.results101, go_sem]) rfl ⟨rfl, unhide HF⟩
end Shelf
end Go.Proofs.YthlcmnjaimffdaaGreatDoor
/-
  What is thrown where something is full: the variable errFull, and how a call ends by it.
-/
namespace Go.Proofs.YthlcmnjaimffdaaGreatDoor
namespace Shelf
open Go.RowKit Base Keep
set_option linter.unusedVariables false

def errV (p : Addr) : Value := .iface 155 (.pointer (some p))
def fullP (p : Addr) : List PanicEntry := [{ v := errV p, recovered := false }]
/-- The variable errFull holds an error at p. -/
structure FullIs (w : World) (p : Addr) : Prop where
  cell : w.cell? ⟨0, 0, none⟩ = some (errV p)
  lt : 0 < w.heap.size
theorem FullIs.below {w w' : World} {p : Addr} (h : FullIs w p) (hb : Below w.heap.size w w') : FullIs w' p :=
  ⟨(hb.cell (p := ⟨0, 0, none⟩) h.lt).trans h.cell, Nat.lt_of_lt_of_le h.lt hb.size⟩
theorem FullIs.keep {w w' : World} {p : Addr} {S : List Nat} (h : FullIs w p) (hk : Keeps S w w') (hS : 0 ∉ S) : FullIs w' p :=
  ⟨(World.cell?_of_block (a := ⟨0, 0, none⟩) (hk.block _ h.lt hS)).trans h.cell, Nat.lt_of_lt_of_le h.lt hk.size⟩
theorem lt_of_cell {w : World} {b o : Nat} {v : Value} (h : w.cell? ⟨b, o, none⟩ = some v) : b < w.heap.size := by
  by_cases hb : b < w.heap.size
  · exact hb
  · simp [World.cell?, Array.getElem?_eq_none (Nat.le_of_not_lt hb)] at h
theorem gave {P : Program} {f : Func} {Q : Ending → World → Prop} {a : Act} {w : World} {p : Addr} (h : Q (.panicked (fullP p)) w) (hd : a.defers = [] := by rfl) : bodyPost P f Q (Exit.panic [{ v := .iface 155 (.pointer (some p)), recovered := false }]) a w := by
  exact ⟨hd, h⟩
end Shelf
end Go.Proofs.YthlcmnjaimffdaaGreatDoor
/-
  The program's shelf: put and keep; each gives up where something is full.
-/
namespace Go.Proofs.YthlcmnjaimffdaaGreatDoor
namespace Shelf
open Go.RowKit Base Items Keep Own Chain Store GoodKey
set_option linter.unusedVariables false

def fullT : ByteArray := ⟨#[83, 69, 82, 86, 69, 82, 95, 69, 82, 82, 79, 82, 32, 102, 117, 108, 108, 13, 10]⟩
/-- What put leaves. -/
def PutEnd (w : World) (hb : Nat) (S : List Nat) (lim nx lost : Int) (its : List Itm) (x : Itm) (p : Addr) (e : Ending) (w' : World) : Prop :=
  if lim < charge x then e = .panicked (fullP p) ∧ Step w w' hb S lim nx lost its
  else e = .returned (.tuple #[]) ∧ Step w w' hb S lim nx (lost + trimN lim (without its x.key ++ [x])) ((without its x.key ++ [x]).drop (trimN lim (without its x.key ++ [x])))
/-- What keep leaves. -/
def KeepEnd (w : World) (hb : Nat) (S : List Nat) (lim nx lost : Int) (its : List Itm) (x : Itm) (ans : ByteArray) (p : Addr) (e : Ending) (w' : World) : Prop :=
  match putR lim nx its x with
  | none => e = .panicked (fullP p) ∧ Step w w' hb S lim nx lost its
  | some (its', n) => e = .returned (.string ans) ∧ Step w w' hb S lim (nx + 1) (lost + n) its'
theorem without_keys {its : List Itm} {key : ByteArray} (h : (its.map Itm.key).Nodup) : ∀ y ∈ without its key, y.key ≠ key := by
  intro y hy
  unfold without at hy
  cases e : atN its key with
  | none => rw [e] at hy; exact at_none e y hy
  | some k =>
    rw [e] at hy
    obtain ⟨hk, hkk⟩ := at_split e
    simp only [List.eraseIdx_eq_take_drop_succ] at hy
    rw [order_split hk, List.map_append, List.map_cons, List.nodup_append] at h
    have hkey : its[k].key = key := by rw [← hkk, List.getD_eq_getElem?_getD, List.getElem?_eq_getElem hk]; rfl
    rcases List.mem_append.1 hy with h1 | h1
    · intro e2
      exact h.2.2 _ (List.mem_map_of_mem h1) _ (by simp) (e2.trans hkey.symm)
    · intro e2
      exact (List.nodup_cons.1 h.2.1).1 (by rw [hkey, ← e2]; exact List.mem_map_of_mem h1)
theorem without_len (its : List Itm) (key : ByteArray) : (without its key).length ≤ its.length := by
  unfold without
  cases e : atN its key with
  | none => exact Nat.le_refl _
  | some k => exact List.length_eraseIdx_le _ _
/-- take, as one contract. -/
theorem take_wo (w : World) (hb : Nat) (S : List Nat) (lim nx lost : Int) (its : List Itm) (key : ByteArray) (hs : Shelf w hb S lim nx lost its) (hl : its.length ≤ 100) (hkey : key.size ≤ maxLen) :
    Calls Tryz.prog 56 #[.pointer (some ⟨hb, 0, none⟩), .string key] w fun e w' => (∃ x c, e = .returned (.tuple #[itemV x, .bool c])) ∧ Step w w' hb S lim nx lost (without its key) := by
  unfold without
  cases e : atN its key with
  | none =>
    refine (take_none w hb S lim nx lost its key hs hkey e).mono ?_
    rintro e' w' ⟨rfl, hb'⟩
    exact ⟨⟨zero, false, rfl⟩, step_more (step_refl hs) (Keeps.of_below (S := []) hb' (fun _ h1 _ => h1))⟩
  | some k =>
    refine (take_some w hb S lim nx lost its key k hs hl hkey e).mono ?_
    rintro e' w' ⟨rfl, hst⟩
    exact ⟨⟨_, true, rfl⟩, hst⟩

theorem lcell4' {w w' : World} {g : Nat} {t : TypeId} {v0 v1 v2 v3 v4 : Value} (hb : w'.heap[g]? = w.heap[g]?) (h : w.heap[g]? = some (.cells #[v0, v1, v2, v3, v4] t (0, 0))) :
    w'.cell? ⟨g, 0, none⟩ = some v0 ∧ w'.cell? ⟨g, 1, none⟩ = some v1 ∧ w'.cell? ⟨g, 2, none⟩ = some v2 ∧ w'.cell? ⟨g, 3, none⟩ = some v3 ∧ w'.cell? ⟨g, 4, none⟩ = some v4 := lcell4 (hb.trans h)
theorem bx5 (w : World) (t : TypeId) (v0 v1 v2 v3 v4 : Value) : (w.alloc (.cells #[v0, v1, v2, v3, v4] t)).cell? ⟨w.heap.size, 0, none⟩ = some v0 ∧ (w.alloc (.cells #[v0, v1, v2, v3, v4] t)).cell? ⟨w.heap.size, 1, none⟩ = some v1 ∧
    (w.alloc (.cells #[v0, v1, v2, v3, v4] t)).cell? ⟨w.heap.size, 2, none⟩ = some v2 ∧ (w.alloc (.cells #[v0, v1, v2, v3, v4] t)).cell? ⟨w.heap.size, 3, none⟩ = some v3 ∧ (w.alloc (.cells #[v0, v1, v2, v3, v4] t)).cell? ⟨w.heap.size, 4, none⟩ = some v4 := by
  refine ⟨?_, ?_, ?_, ?_, ?_⟩ <;> (rw [World.cell?_alloc_new]; rfl)

set_option maxRecDepth 10000 in
set_option maxHeartbeats 2000000 in
theorem put_shelf (w : World) (hb : Nat) (S : List Nat) (lim nx lost : Int) (its : List Itm) (x : Itm) (p : Addr) (hs : Shelf w hb S lim nx lost its) (hF : FullIs w p) (hl : its.length ≤ 60) (hx : Small x) (hlim : 0 ≤ lim ∧ lim ≤ 10000) (hlo : 0 ≤ lost ∧ lost ≤ 500) :
    Calls Tryz.prog 98 #[.pointer (some ⟨hb, 0, none⟩), .agg #[.string x.key, .int .i64 x.flags, .string x.data, .int .i64 x.upto, .int .i64 x.token]] w (PutEnd w hb S lim nx lost its x p) := by
  obtain ⟨r0, r1, r2, r3, rf, bm', r6, -⟩ := shelf_reads hs
  have hwl := (shelf_in hs).2
  have HS := hide hs
  have HX := hide hx
  have HFU := hide hF
  clear hF
  have hch : 0 ≤ charge x ∧ charge x ≤ 2097162 := by have := hx; unfold Small at this; unfold charge; omega
  have hcal := fun w => chargeOf_any x w hx
  by_cases g1 : lim < charge x
  · have HF1 : Hid (∀ w', Keeps [] w w' → PutEnd w hb S lim nx lost its x p (.panicked (fullP p)) w') := by
      intro w' hk
      unfold PutEnd
      rw [if_pos g1]
      exact ⟨rfl, step_more (step_refl (unhide HS)) hk⟩
    generalize charge x = c at hch hcal g1
    have HC := hide hcal
    have d1 : decide (lim < c) = true := decide_eq_true g1
    clear hcal
    obtain ⟨KE, hKE⟩ : ∃ KE : Ending → World → Prop, KE = PutEnd w hb S lim nx lost its x p := ⟨_, rfl⟩
    rw [← hKE] at HF1 ⊢
    have HKE := hide hKE
    clear hKE
    show Calls _ _ _ w (fun e w' => KE e w')
    obtain ⟨k0, k1, k2, k3, k4⟩ := bx5 w 71 (.string x.key) (.int .i64 x.flags) (.string x.data) (.int .i64 x.upto) (.int .i64 x.token)
    have p0 := cell_regrown k0
    have p1 := cell_regrown k1
    have p2 := cell_regrown k2
    have p3 := cell_regrown k3
    have p4 := cell_regrown k4
    have p5 := cell_regrown ((World.cell?_of_block (a := ⟨hb, 0, none⟩) (Below.heap_alloc w (.cells #[.string x.key, .int .i64 x.flags, .string x.data, .int .i64 x.upto, .int .i64 x.token] 71) hb hwl)).trans r0)
    have cC := fun d os => Calls.regrown_of (unhide HC (Go.Sort.grow (redrawn (w.alloc (.cells #[.string x.key, .int .i64 x.flags, .string x.data, .int .i64 x.upto, .int .i64 x.token] 71)) d) os))
    have hmix : Tryz.prog.follows .mixedOrders = true := by kernel_rfl
    go_enter Tryz.func98, Tryz.ntmps98
    go_wp2_with fail
    refine wp_region_quiet_below hmix (by kernel_rfl) ?_
    repeat (quiet_step (exact cC _ _))
    refine wpQuiet_nil ?_
    intro _ hw'
    obtain ⟨⟨dq, osq⟩, hw''⟩ := hw'
    subst hw''
    have hkc := hide (Keeps.of_below (S := []) (below_regrown (w.alloc (.cells #[.string x.key, .int .i64 x.flags, .string x.data, .int .i64 x.upto, .int .i64 x.token] 71)) dq osq) (fun _ h1 _ => h1))
    generalize (Go.Sort.grow (redrawn (w.alloc (.cells #[.string x.key, .int .i64 x.flags, .string x.data, .int .i64 x.upto, .int .i64 x.token] 71)) dq) osq) = wc at hkc ⊢
    clear p0 p1 p2 p3 p4 p5 cC
    have hK0 := hide (((Keeps.refl [] w).alloc (.cells #[.string x.key, .int .i64 x.flags, .string x.data, .int .i64 x.upto, .int .i64 x.token] 71)).trans (unhide hkc) (by simp))
    have hfc := ((unhide HFU).keep (unhide hK0) (by simp)).cell
    unfold errV at hfc
    go_wp2
    exact gave (unhide HF1 _ (unhide hK0))
  have hwl2 := without_len its x.key
  have HW := hide (without_keys (key := x.key) (shelf_keys hs).1)
  have HP : Hid (∀ w', Step w w' hb S lim nx (lost + trimN lim (without its x.key ++ [x])) ((without its x.key ++ [x]).drop (trimN lim (without its x.key ++ [x]))) → PutEnd w hb S lim nx lost its x p (.returned (.tuple #[])) w') := by
    intro w' h
    unfold PutEnd
    rw [if_neg g1]
    exact ⟨rfl, h⟩
  obtain ⟨KE, hKE⟩ : ∃ KE : Ending → World → Prop, KE = PutEnd w hb S lim nx lost its x p := ⟨_, rfl⟩
  rw [← hKE] at HP ⊢
  have HKE := hide hKE
  clear hKE
  generalize charge x = c at hch hcal g1
  have HC := hide hcal
  have d1 : decide (lim < c) = false := decide_eq_false g1
  clear hcal
  show Calls _ _ _ w (fun e w' => KE e w')
  obtain ⟨k0, k1, k2, k3, k4⟩ := bx5 w 71 (.string x.key) (.int .i64 x.flags) (.string x.data) (.int .i64 x.upto) (.int .i64 x.token)
  have p0 := cell_regrown k0
  have p1 := cell_regrown k1
  have p2 := cell_regrown k2
  have p3 := cell_regrown k3
  have p4 := cell_regrown k4
  have p5 := cell_regrown ((World.cell?_of_block (a := ⟨hb, 0, none⟩) (Below.heap_alloc w (.cells #[.string x.key, .int .i64 x.flags, .string x.data, .int .i64 x.upto, .int .i64 x.token] 71) hb hwl)).trans r0)
  have cC := fun d os => Calls.regrown_of (unhide HC (Go.Sort.grow (redrawn (w.alloc (.cells #[.string x.key, .int .i64 x.flags, .string x.data, .int .i64 x.upto, .int .i64 x.token] 71)) d) os))
  have hmix : Tryz.prog.follows .mixedOrders = true := by kernel_rfl
  go_enter Tryz.func98, Tryz.ntmps98
  go_wp2_with fail
  refine wp_region_quiet_below hmix (by kernel_rfl) ?_
  repeat (quiet_step (exact cC _ _))
  refine wpQuiet_nil ?_
  intro _ hw'
  obtain ⟨⟨dq, osq⟩, hw''⟩ := hw'
  subst hw''
  have hkc := hide (Keeps.of_below (S := []) (below_regrown (w.alloc (.cells #[.string x.key, .int .i64 x.flags, .string x.data, .int .i64 x.upto, .int .i64 x.token] 71)) dq osq) (fun _ h1 _ => h1))
  generalize (Go.Sort.grow (redrawn (w.alloc (.cells #[.string x.key, .int .i64 x.flags, .string x.data, .int .i64 x.upto, .int .i64 x.token] 71)) dq) osq) = wc at hkc ⊢
  clear p0 p1 p2 p3 p4 p5 cC
  have hK0 := hide (((Keeps.refl [] w).alloc (.cells #[.string x.key, .int .i64 x.flags, .string x.data, .int .i64 x.upto, .int .i64 x.token] 71)).trans (unhide hkc) (by simp))
  have q5 := lcell4' ((unhide hkc).block w.heap.size (by simp) (by simp)) (heap_alloc_new w (.cells #[.string x.key, .int .i64 x.flags, .string x.data, .int .i64 x.upto, .int .i64 x.token] 71))
  obtain ⟨z0, z1, z2, z3, z4⟩ := q5
  go_wp2_with fail
  have hxk : x.key.size ≤ maxLen := by have := (unhide HX).1; unfold maxLen; omega
  refine (take_wo _ hb S lim nx lost its x.key ((unhide HS).keep (unhide hK0) (by simp)) (by omega) hxk).mono ?_
  rintro e w2 ⟨⟨y, cc, rfl⟩, hst2⟩
  have hwn : w.heap.size ∉ S := fun hm => by have := hs.lt _ hm; omega
  have hzc : w.heap.size < wc.heap.size := by have := (unhide hkc).size; simp at this; omega
  obtain ⟨S2, hs2, hS2, hk2⟩ := hst2
  have hb2 := hk2.block w.heap.size hzc hwn
  obtain ⟨y0, y1, y2, y3, y4⟩ := lcell4' (hb2.trans ((unhide hkc).block w.heap.size (by simp) (by simp))) (heap_alloc_new w (.cells #[.string x.key, .int .i64 x.flags, .string x.data, .int .i64 x.upto, .int .i64 x.token] 71))
  have HS2 := hide hs2
  have HSA : Hid (∀ b ∈ S2, b ∈ S ∨ w.heap.size ≤ b) := fun b hb' => (hS2 b hb').imp id (fun e => by omega)
  have HKA := hide (((unhide hK0).mono (S' := S) (by simp)).trans hk2 (fun y hy => .inl hy))
  clear z0 z1 z2 z3 z4 hs2 hS2 hk2 hs hx
  unfold itemV
  go_wp2_with fail
  refine (putLast_shelf _ hb S2 lim nx lost (without its x.key) x (unhide HS2) (by omega) (unhide HX) (unhide HW)).mono ?_
  rintro e w3 ⟨rfl, hst3⟩
  have hst3' := step_go (unhide HKA) (unhide HSA) hst3
  obtain ⟨S3, hs3, hS3, hk3⟩ := hst3'
  have HS3 := hide hs3
  have HSS3 := hide hS3
  have HK3 := hide hk3
  clear hst3 hs3 hS3 hk3 y0 y1 y2 y3 y4
  go_wp2_with fail
  refine (makeRoom_shelf _ hb S3 lim nx lost (without its x.key ++ [x]) (unhide HS3) (by simp; omega) (by omega)).mono ?_
  rintro e w4 ⟨rfl, hst4⟩
  have HF := hide (unhide HP w4 (step_go (unhide HK3) (unhide HSS3) hst4))
  clear hst4
  go_wp2
  first
  | exact bodyPost_end (v := .tuple #[]) (by simp [results, Tryz.results98, go_sem]) rfl (unhide HF)
  | exact unhide HF

set_option maxRecDepth 10000 in
set_option maxHeartbeats 2000000 in
theorem keep_shelf (w : World) (hb : Nat) (S : List Nat) (lim nx lost : Int) (its : List Itm) (x : Itm) (ans : ByteArray) (p : Addr) (hs : Shelf w hb S lim nx lost its) (hF : FullIs w p) (hl : its.length ≤ 60) (hx : Small x) (hlim : 0 ≤ lim ∧ lim ≤ 10000) (hnx : 1 ≤ nx ∧ nx ≤ 1000000000) (hlo : 0 ≤ lost ∧ lost ≤ 500) :
    Calls Tryz.prog 93 #[.pointer (some ⟨hb, 0, none⟩), .agg #[.string x.key, .int .i64 x.flags, .string x.data, .int .i64 x.upto, .int .i64 x.token], .string ans] w (KeepEnd w hb S lim nx lost its x ans p) := by
  obtain ⟨r0, r1, r2, r3, rf, bm', r6, -⟩ := shelf_reads hs
  have hwl := (shelf_in hs).2
  have HIN := hide (shelf_in hs).1
  have HS := hide hs
  have HFU := hide hF
  obtain ⟨KE, hKE⟩ : ∃ KE : Ending → World → Prop, KE = KeepEnd w hb S lim nx lost its x ans p := ⟨_, rfl⟩
  have HNO : Hid ((lim < charge x ∨ nx = 1000000000) → ∀ w', Step w w' hb S lim nx lost its → KE (.panicked (fullP p)) w') := by
    intro hor w' hk
    rw [hKE]
    unfold KeepEnd
    have H : putR lim nx its x = none := by unfold putR; rw [if_pos hor]
    rw [H]
    exact ⟨rfl, hk⟩
  have HYES : Hid (¬ (lim < charge x ∨ nx = 1000000000) → ∀ w', Step w w' hb S lim (nx + 1) (lost + trimN lim (without its x.key ++ [{ x with token := nx }])) ((without its x.key ++ [{ x with token := nx }]).drop (trimN lim (without its x.key ++ [{ x with token := nx }]))) → KE (.returned (.string ans)) w') := by
    intro hor w' h
    rw [hKE]
    unfold KeepEnd
    have e : putR lim nx its x = some ((without its x.key ++ [{ x with token := nx }]).drop (trimN lim (without its x.key ++ [{ x with token := nx }])), trimN lim (without its x.key ++ [{ x with token := nx }])) := by
      unfold putR
      rw [if_neg hor]
    rw [e]
    exact ⟨rfl, h⟩
  have HPUT := hide (fun w1 (h1 : Shelf w1 hb S lim nx lost its) (h2 : FullIs w1 p) => put_shelf w1 hb S lim nx lost its { x with token := nx } p h1 h2 hl hx hlim hlo)
  rw [← hKE]
  have HKE := hide hKE
  clear hKE
  show Calls _ _ _ w (fun e w' => KE e w')
  by_cases g2 : nx = 1000000000
  · have HF1 := hide (unhide HNO (.inr g2))
    clear HYES HNO HPUT
    have hfc := (hF.keep ((Keeps.refl [] w).alloc (.cells #[.string x.key, .int .i64 x.flags, .string x.data, .int .i64 x.upto, .int .i64 x.token] 71)) (by simp)).cell
    unfold errV at hfc
    clear hs hF
    subst g2
    go_enter Tryz.func93, Tryz.ntmps93
    go_wp2
    exact gave (unhide HF1 _ (step_more (step_refl (unhide HS)) ((Keeps.refl [] w).alloc _)))
  have hwn : w.heap.size ∉ S := fun hm => by have := hs.lt _ hm; omega
  have hk1 : Keeps [] w (w.alloc (.cells #[.string x.key, .int .i64 x.flags, .string x.data, .int .i64 x.upto, .int .i64 nx] 71)) := (Keeps.refl [] w).alloc _
  have HP1 := hide (unhide HPUT _ (hs.keep hk1 (by simp)) (hF.keep hk1 (by simp)))
  have HK1 := hide hk1
  have hnx2 : IntKind.i64.wrap (nx + 1) = nx + 1 := by rw [IntKind.wrap_i64]; omega
  have hne : ¬ hb = w.heap.size := by omega
  have d2 : decide (nx = 1000000000) = false := decide_eq_false g2
  clear hk1 HPUT hs hF
  by_cases g1 : lim < charge x
  · have HF1 := hide (unhide HNO (.inl g1))
    have HP2 : Hid (Calls Tryz.prog 98 #[.pointer (some ⟨hb, 0, none⟩), .agg #[.string x.key, .int .i64 x.flags, .string x.data, .int .i64 x.upto, .int .i64 nx]] (w.alloc (.cells #[.string x.key, .int .i64 x.flags, .string x.data, .int .i64 x.upto, .int .i64 nx] 71)) fun e w' => e = .panicked (fullP p) ∧ Step (w.alloc (.cells #[.string x.key, .int .i64 x.flags, .string x.data, .int .i64 x.upto, .int .i64 nx] 71)) w' hb S lim nx lost its) :=
      (unhide HP1).mono fun e w' h => by unfold PutEnd at h; rw [if_pos (show lim < charge { x with token := nx } from g1)] at h; exact h
    clear HYES HNO HP1 g1 hlim hlo hnx
    go_enter Tryz.func93, Tryz.ntmps93
    go_wp2_with fail
    refine (unhide HP2).mono ?_
    rintro e w1 ⟨rfl, hst⟩
    have HST := hide (unhide HF1 _ (step_go ((unhide HK1).mono (S' := S) (by simp)) (fun b hb' => .inl hb') hst))
    clear hst
    go_wp2
    exact gave (unhide HST)
  · have HF1 := hide (unhide HYES (fun h => h.elim g1 g2))
    have HP2 : Hid (Calls Tryz.prog 98 #[.pointer (some ⟨hb, 0, none⟩), .agg #[.string x.key, .int .i64 x.flags, .string x.data, .int .i64 x.upto, .int .i64 nx]] (w.alloc (.cells #[.string x.key, .int .i64 x.flags, .string x.data, .int .i64 x.upto, .int .i64 nx] 71)) fun e w' => e = .returned (.tuple #[]) ∧ Step (w.alloc (.cells #[.string x.key, .int .i64 x.flags, .string x.data, .int .i64 x.upto, .int .i64 nx] 71)) w' hb S lim nx (lost + trimN lim (without its x.key ++ [{ x with token := nx }])) ((without its x.key ++ [{ x with token := nx }]).drop (trimN lim (without its x.key ++ [{ x with token := nx }])))) :=
      (unhide HP1).mono fun e w' h => by unfold PutEnd at h; rw [if_neg (show ¬ lim < charge { x with token := nx } from g1)] at h; exact h
    clear HYES HNO HP1 g1 hlim hlo hnx
    generalize (without its x.key ++ [{ x with token := nx }]).drop (trimN lim (without its x.key ++ [{ x with token := nx }])) = r at HF1 HP2
    generalize (trimN lim (without its x.key ++ [{ x with token := nx }])) = n at HF1 HP2
    go_enter Tryz.func93, Tryz.ntmps93
    go_wp2_with fail
    refine (unhide HP2).mono ?_
    rintro e w1 ⟨rfl, hst⟩
    have hst1 := step_go ((unhide HK1).mono (S' := S) (by simp)) (fun b hb' => .inl hb') hst
    have HST := hide (step_next hst1 (unhide HIN) (nx + 1))
    obtain ⟨S1, hs1, -, -⟩ := hst1
    obtain ⟨t0, t1, t2, t3, tf, bm2, t6, -⟩ := shelf_reads hs1
    clear hst hs1 r0 r1 r2 r3 rf r6 t0 t2 t3 t6
    go_wp2
    exact unhide HF1 _ (unhide HST)
end Shelf
end Go.Proofs.YthlcmnjaimffdaaGreatDoor
/-
  The program's shelf: remove, touch.
-/
namespace Go.Proofs.YthlcmnjaimffdaaGreatDoor
namespace Shelf
open Go.RowKit Base Items Keep Own Chain Store GoodKey
set_option linter.unusedVariables false

def notFoundT : ByteArray := ⟨#[78, 79, 84, 95, 70, 79, 85, 78, 68, 13, 10]⟩
def deletedT : ByteArray := ⟨#[68, 69, 76, 69, 84, 69, 68, 13, 10]⟩
def touchedT : ByteArray := ⟨#[84, 79, 85, 67, 72, 69, 68, 13, 10]⟩

set_option maxRecDepth 10000 in
set_option maxHeartbeats 1000000 in
theorem remove_shelf (w : World) (hb : Nat) (S : List Nat) (lim nx lost : Int) (its : List Itm) (key : ByteArray) (hs : Shelf w hb S lim nx lost its) (hl : its.length ≤ 100) (hkey : key.size ≤ maxLen) :
    Calls Tryz.prog 78 #[.pointer (some ⟨hb, 0, none⟩), .string key] w fun e w' => e = .returned (.string (if (atN its key).isSome then deletedT else notFoundT)) ∧ Step w w' hb S lim nx lost (without its key) := by
  cases e : atN its key with
  | none =>
    have hw : without its key = its := by unfold without; rw [e]
    rw [hw]
    have HT := hide (fun w' (h : Shelf w' hb S lim nx lost its) => take_none w' hb S lim nx lost its key h hkey e)
    have HS := hide hs
    clear hs e hw
    go_enter Tryz.func78, Tryz.ntmps78
    go_wp2_with fail
    refine (unhide HT _ (unhide HS)).mono ?_
    rintro e w1 ⟨rfl, hb1⟩
    have HF := hide (step_more (step_refl (unhide HS)) (Keeps.of_below (S := []) hb1 (fun _ h1 _ => h1)))
    clear hb1
    go_wp2
    go_ret
    first
      | exact ⟨rfl, unhide HF⟩
      | exact ⟨rfl, step_more (unhide HF) ((Keeps.refl [] _).alloc _)⟩
  | some k =>
    have hw : without its key = its.eraseIdx k := by unfold without; rw [e]
    rw [hw]
    have HT := hide (fun w' (h : Shelf w' hb S lim nx lost its) => take_some w' hb S lim nx lost its key k h hl hkey e)
    have HS := hide hs
    clear hs e hw
    go_enter Tryz.func78, Tryz.ntmps78
    go_wp2_with fail
    refine (unhide HT _ (unhide HS)).mono ?_
    rintro e w1 ⟨rfl, hst⟩
    have HF := hide hst
    clear hst
    unfold itemV
    go_wp2
    go_ret
    first
      | exact ⟨rfl, unhide HF⟩
      | exact ⟨rfl, step_more (unhide HF) ((Keeps.refl [] _).alloc _)⟩

/-- What touch leaves. -/
def TouchEnd (w : World) (hb : Nat) (S : List Nat) (lim nx lost : Int) (its : List Itm) (key : ByteArray) (u : Int) (e : Ending) (w' : World) : Prop :=
  match atN its key with
  | none => e = .returned (.string notFoundT) ∧ Step w w' hb S lim nx lost its
  | some k => e = .returned (.string touchedT) ∧ Step w w' hb S lim nx lost (its.eraseIdx k ++ [{ its.getD k zero with upto := u }])

set_option maxRecDepth 10000 in
set_option maxHeartbeats 1000000 in
theorem touch_shelf (w : World) (hb : Nat) (S : List Nat) (lim nx lost : Int) (its : List Itm) (key : ByteArray) (u : Int) (hs : Shelf w hb S lim nx lost its) (hl : its.length ≤ 100) (hkey : key.size ≤ maxLen) :
    Calls Tryz.prog 76 #[.pointer (some ⟨hb, 0, none⟩), .string key, .int .i64 u] w (TouchEnd w hb S lim nx lost its key u) := by
  have HKW := hide (without_keys (key := key) (shelf_keys hs).1)
  have hks := hide (shelf_keys hs)
  cases e : atN its key with
  | none =>
    have HE : Hid (∀ w', Step w w' hb S lim nx lost its → TouchEnd w hb S lim nx lost its key u (.returned (.string notFoundT)) w') := fun w' h => by unfold TouchEnd; rw [e]; exact ⟨rfl, h⟩
    have HT := hide (fun w' (h : Shelf w' hb S lim nx lost its) => take_none w' hb S lim nx lost its key h hkey e)
    have HS := hide hs
    clear hs e HKW
    obtain ⟨KE, hKE⟩ : ∃ KE : Ending → World → Prop, KE = TouchEnd w hb S lim nx lost its key u := ⟨_, rfl⟩
    rw [← hKE] at HE ⊢
    clear hKE
    show Calls _ _ _ w (fun e w' => KE e w')
    go_enter Tryz.func76, Tryz.ntmps76
    go_wp2_with fail
    refine (unhide HT _ (unhide HS)).mono ?_
    rintro e w1 ⟨rfl, hb1⟩
    have HF := hide (step_more (step_refl (unhide HS)) (Keeps.of_below (S := []) hb1 (fun _ h1 _ => h1)))
    clear hb1
    go_wp2
    first
      | exact unhide HE _ (unhide HF)
      | exact unhide HE _ (step_more (unhide HF) ((Keeps.refl [] _).alloc _))
      | (go_ret; exact unhide HE _ (step_more (unhide HF) ((Keeps.refl [] _).alloc _)))
  | some k =>
    have HE : Hid (∀ w', Step w w' hb S lim nx lost (its.eraseIdx k ++ [{ its.getD k zero with upto := u }]) → TouchEnd w hb S lim nx lost its key u (.returned (.string touchedT)) w') := fun w' h => by unfold TouchEnd; rw [e]; exact ⟨rfl, h⟩
    have HT := hide (fun w' (h : Shelf w' hb S lim nx lost its) => take_some w' hb S lim nx lost its key k h hl hkey e)
    have hat := at_split e
    have hsm := hide (small_getD (unhide hks).2 k hat.1)
    have HW2 : Hid (∀ y ∈ its.eraseIdx k, y.key ≠ (its.getD k zero).key) := by
      have h1 := unhide HKW
      unfold without at h1
      rw [e] at h1
      rw [hat.2]
      exact h1
    have hel : (its.eraseIdx k).length ≤ 100 := Nat.le_trans (List.length_eraseIdx_le _ _) hl
    have HS := hide hs
    clear hs e HKW hat
    obtain ⟨KE, hKE⟩ : ∃ KE : Ending → World → Prop, KE = TouchEnd w hb S lim nx lost its key u := ⟨_, rfl⟩
    rw [← hKE] at HE ⊢
    clear hKE
    generalize its.getD k zero = x at HE HT hsm HW2
    generalize its.eraseIdx k = r at HE HT HW2 hel
    show Calls _ _ _ w (fun e w' => KE e w')
    go_enter Tryz.func76, Tryz.ntmps76
    go_wp2_with fail
    refine (unhide HT _ (unhide HS)).mono ?_
    rintro e w1 ⟨rfl, S1, hs1, hS1, hk1⟩
    have HS1 := hide hs1
    have HSS1 := hide hS1
    have HK1 := hide hk1
    clear hs1 hS1 hk1
    unfold itemV
    go_wp2_with fail
    refine (putLast_shelf _ hb S1 lim nx lost r { x with upto := u } ((unhide HS1).keep ((Keeps.refl [] w1).alloc _) (by simp)) hel (unhide hsm) (unhide HW2)).mono ?_
    rintro e w2 ⟨rfl, hst2⟩
    have HF := hide (step_go ((unhide HK1).alloc _) (unhide HSS1) hst2)
    clear hst2
    go_wp2
    first
      | exact unhide HE _ (unhide HF)
      | (go_ret; exact unhide HE _ (unhide HF))
end Shelf
end Go.Proofs.YthlcmnjaimffdaaGreatDoor
/-
  The program's shelf: flush, plain.
-/
namespace Go.Proofs.YthlcmnjaimffdaaGreatDoor
namespace Shelf
open Go.RowKit Base Items Keep Own Chain Store GoodKey
set_option linter.unusedVariables false

theorem box_any {w : World} {hb : Nat} {S : List Nat} {lim nx lost : Int} {its : List Itm} (h : Shelf w hb S lim nx lost its) : ∃ bm vl vf, Box w hb ⟨lim, nx, total its, lost, .map (some bm)⟩ vl vf := by
  obtain ⟨gl, gf, bm, ls, free, order, cl, vf, D, hp⟩ := h
  exact ⟨bm, _, _, hp.mem.box⟩
theorem box_set6 {w : World} {hb : Nat} {h : Hd} {vl vf : Value} (hB : Box w hb h vl vf) (v : Value) : Box (w.setCell ⟨hb, 6, none⟩ v) hb { h with vm := v } vl vf := by unfold Box at *; simp [World.setCell, Array.getElem?_modify, hB]
theorem shelf_new' {wx : World} {h g bm : Nat} {lim nx lost : Int} (hB : Box wx h ⟨lim, nx, 0, lost, .map (some bm)⟩ (.slice (some ⟨g, 0, none⟩) 1 1) (.slice none 0 0)) (hl : LinksAt wx 105 g 1 [zl])
    (hm : wx.ownsMap Tryz.prog 9 (plainElem Tryz.prog 3) bm 0 (.map [] : DataW Unit)) (h1 : h ≠ g) (h2 : bm ≠ h) (h3 : bm ≠ g) : Shelf wx h [h, g, bm] lim nx lost [] :=
  ⟨g, none, bm, [zl], [], [], 1, .slice none 0 0, .map [], ⟨⟨hB, hl, World.ownsRow_nil _ _ _ _, rfl, h1, by simp, by simp⟩, good_new, rfl, by simp, hm, mapIs_new, h2, h3, by simp, rfl, by simp, by simp⟩⟩

set_option maxRecDepth 10000 in
set_option maxHeartbeats 1000000 in
theorem flush_shelf (w : World) (hb : Nat) (S : List Nat) (lim nx lost : Int) (its : List Itm) (hs : Shelf w hb S lim nx lost its) :
    Calls Tryz.prog 95 #[.pointer (some ⟨hb, 0, none⟩)] w fun e w' => e = .returned (.tuple #[]) ∧ Step w w' hb S lim nx lost [] := by
  obtain ⟨hin, hwl⟩ := shelf_in hs
  obtain ⟨bm, vl, vf, hbx⟩ := box_any hs
  have HS := hide hs
  have HBX := hide hbx
  clear hs hbx
  have hmm := @run_makeMap Tryz.prog
  go_enter Tryz.func95, Tryz.ntmps95
  go_wp2_with fail
  refine (newChain_any _).mono ?_
  rintro e w1 ⟨g, rfl, hg, hli, hb1⟩
  have hbx1 := (unhide HBX).of_block (hb1.block hb hwl)
  obtain ⟨c0, c1, c2, c3, c4, c5, c6⟩ := hbx1.cells
  have hf := hbx1.frozen
  have hlt1 := hbx1.lt
  have HB1 := hide hb1
  have HLI := hide hli
  have HX1 := hide hbx1
  clear hb1 hli hbx1
  go_wp2
  refine bodyPost_end (v := .tuple #[]) (by simp [results, Tryz.results95, go_sem]) rfl ⟨rfl, ?_⟩
  have hz1 := (unhide HB1).size
  have hgl := Row.lt (unhide HLI)
  have hghb : g ≠ hb := by omega
  have hsz : ((((w1.setCell ⟨hb, 4, none⟩ (.slice (some ⟨g, 0, none⟩) 1 1)).setCell ⟨hb, 5, none⟩ (.slice none 0 0)).setCell ⟨hb, 6, none⟩ (.map (some w1.heap.size))).setCell ⟨hb, 2, none⟩ (.int .i64 0)).heap.size = w1.heap.size := by simp [World.setCell]
  have hbx := box_set2 (box_set6 (((unhide HX1).set4 (.slice (some ⟨g, 0, none⟩) 1 1)).set5 (.slice none 0 0)) (.map (some w1.heap.size))) 0
  have hli := Row.setOther (p := ⟨hb, 2, none⟩) (Row.setOther (p := ⟨hb, 6, none⟩) (Row.setOther (p := ⟨hb, 5, none⟩) (Row.setOther (p := ⟨hb, 4, none⟩) (unhide HLI) hghb (.slice (some ⟨g, 0, none⟩) 1 1)) hghb (.slice none 0 0)) hghb (.map (some w1.heap.size))) hghb (.int .i64 0)
  have hk : Keeps S w ((((w1.setCell ⟨hb, 4, none⟩ (.slice (some ⟨g, 0, none⟩) 1 1)).setCell ⟨hb, 5, none⟩ (.slice none 0 0)).setCell ⟨hb, 6, none⟩ (.map (some w1.heap.size))).setCell ⟨hb, 2, none⟩ (.int .i64 0)) :=
    ((((Keeps.of_below (S := S) (unhide HB1) (fun _ h1 _ => h1)).setCell (p := ⟨hb, 4, none⟩) (.inl hin) _).setCell (p := ⟨hb, 5, none⟩) (.inl hin) _).setCell (p := ⟨hb, 6, none⟩) (.inl hin) _).setCell (p := ⟨hb, 2, none⟩) (.inl hin) _
  generalize ((((w1.setCell ⟨hb, 4, none⟩ (.slice (some ⟨g, 0, none⟩) 1 1)).setCell ⟨hb, 5, none⟩ (.slice none 0 0)).setCell ⟨hb, 6, none⟩ (.map (some w1.heap.size))).setCell ⟨hb, 2, none⟩ (.int .i64 0)) = W at hsz hbx hli hk ⊢
  have hm := World.ownsMap_made W Tryz.prog 9 (plainElem (H := Unit) Tryz.prog 3)
  rw [hsz] at hm
  refine ⟨[hb, g, w1.heap.size], shelf_new' (hbx.of_block (Below.heap_alloc _ _ _ hbx.lt)) (Row.alloc hli _) hm (Ne.symm hghb) (by omega) (by omega), fun b hb' => ?_, hk.alloc _⟩
  simp at hb'
  rcases hb' with e | e | e
  · exact .inl (e ▸ hin)
  · exact .inr (by omega)
  · exact .inr (by omega)

def flushN : ByteArray := ⟨#[102, 108, 117, 115, 104, 95, 97, 108, 108]⟩
def versionN : ByteArray := ⟨#[118, 101, 114, 115, 105, 111, 110]⟩
def okT : ByteArray := ⟨#[79, 75, 13, 10]⟩
def versionT : ByteArray := ⟨#[86, 69, 82, 83, 73, 79, 78, 32, 49, 13, 10]⟩
/-- What plain leaves. -/
def PlainEnd (w : World) (hb : Nat) (S : List Nat) (lim nx lost : Int) (its : List Itm) (name : ByteArray) (e : Ending) (w' : World) : Prop :=
  (name = flushN → e = .returned (.string okT) ∧ Step w w' hb S lim nx lost []) ∧
  (name = versionN → e = .returned (.string versionT) ∧ Step w w' hb S lim nx lost its) ∧
  (name ≠ flushN → name ≠ versionN → e = .returned (.string ByteArray.empty) ∧ Step w w' hb S lim nx lost its)

theorem plainOther {w w' : World} {hb : Nat} {S : List Nat} {lim nx lost : Int} {its : List Itm} {name : ByteArray} (h1 : ¬ name = flushN) (h2 : ¬ name = versionN) (h : Step w w' hb S lim nx lost its) : PlainEnd w hb S lim nx lost its name (.returned (.string ⟨#[]⟩)) w' :=
  ⟨fun e => absurd e h1, fun e => absurd e h2, fun _ _ => ⟨rfl, h⟩⟩

set_option maxRecDepth 10000 in
set_option maxHeartbeats 1000000 in
theorem plain_shelf (w : World) (hb : Nat) (S : List Nat) (lim nx lost : Int) (its : List Itm) (name : ByteArray) (hs : Shelf w hb S lim nx lost its) :
    Calls Tryz.prog 79 #[.pointer (some ⟨hb, 0, none⟩), .string name] w fun e w' => PlainEnd w hb S lim nx lost its name e w' := by
  by_cases g1 : name = flushN
  · subst g1
    have HT := hide (flush_shelf w hb S lim nx lost its hs)
    have hne : flushN ≠ versionN := by decide
    have HN := hide hne
    clear hs hne
    unfold flushN at HT HN ⊢
    go_enter Tryz.func79, Tryz.ntmps79
    go_wp2_with fail
    refine (unhide HT).mono ?_
    rintro e w1 ⟨rfl, hst⟩
    have HF := hide hst
    clear hst
    go_wp2
    go_ret
    exact ⟨fun _ => ⟨rfl, unhide HF⟩, fun h => absurd h (unhide HN), fun h => absurd rfl h⟩
  by_cases g2 : name = versionN
  · subst g2
    have HN := hide g1
    have HF := hide (step_refl hs)
    clear hs g1
    unfold versionN at HN ⊢
    go_enter Tryz.func79, Tryz.ntmps79
    go_wp2
    go_ret
    exact ⟨fun h => absurd h (unhide HN), fun _ => ⟨rfl, unhide HF⟩, fun _ h => absurd rfl h⟩
  · have e1 : (name.toList == [102, 108, 117, 115, 104, 95, 97, 108, 108]) = false := by rw [beq_eq_false_iff_ne]; intro h; apply g1; apply Go.WideShapes.bytes_inj; rw [← Lib.toList_data, h]; rfl
    have e2 : (name.toList == [118, 101, 114, 115, 105, 111, 110]) = false := by rw [beq_eq_false_iff_ne]; intro h; apply g2; apply Go.WideShapes.bytes_inj; rw [← Lib.toList_data, h]; rfl
    have HN1 := hide g1
    have HN2 := hide g2
    have HF := hide (step_refl hs)
    clear hs g1 g2
    go_enter Tryz.func79, Tryz.ntmps79
    go_wp2
    go_ret
    exact plainOther (unhide HN1) (unhide HN2) (unhide HF)
end Shelf
end Go.Proofs.YthlcmnjaimffdaaGreatDoor
