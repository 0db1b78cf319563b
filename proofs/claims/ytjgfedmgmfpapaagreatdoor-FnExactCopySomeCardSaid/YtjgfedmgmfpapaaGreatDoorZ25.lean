/-
  The program's shelf: put and keep; each gives up where something is full.
-/
import Derived.Test.YtjgfedmgmfpapaaGreatDoorZ24
import Derived.Deep.DeepCutAuto
import Derived.Lib.QuietBelow
import Derived.BigQuiet
import Derived.Defers
import Derived.Recover
import Derived.WalkKit
import Derived.LaidEql
import Derived.Test.YtjgfedmgmfpapaaGreatDoorChecked
import Derived.Lib.MinMax
import Derived.StillTailTactics
import Derived.Test.YtjgfedmgmfpapaaGreatDoorZ22
namespace Go.Proofs.YtjgfedmgmfpapaaGreatDoor
namespace Shelf
open Go.RowKit Base Items Keep Own Chain Store GoodKey
set_option linter.unusedVariables false

def fullT : ByteArray := ⟨#[83, 69, 82, 86, 69, 82, 95, 69, 82, 82, 79, 82, 32, 102, 117, 108, 108, 13, 10]⟩
/-- What put leaves. -/
def PutEnd (w : World) (hb : Nat) (S : List Nat) (lim nx lost : Int) (its : List Itm) (x : Itm) (p : Addr) (e : Ending) (w' : World) : Prop :=
  if lim < charge x then e = .panicked (fullP p) ∧ Step w w' hb S lim nx lost its
  else e = .returned (.tuple #[]) ∧ Step w w' hb S lim nx (lost + trimN lim (without its x.key ++ [x])) ((without its x.key ++ [x]).drop (trimN lim (without its x.key ++ [x])))
/-- What keep leaves. -/
def KeepEnd (w : World) (hb : Nat) (S : List Nat) (lim nx lost : Int) (its : List Itm) (x : Itm) (ans : ByteArray) (p : Addr) (e : Ending) (w' : World) : Prop :=
  match putR lim nx its x with
  | none => e = .panicked (fullP p) ∧ Step w w' hb S lim nx lost its
  | some (its', n) => e = .returned (.string ans) ∧ Step w w' hb S lim (nx + 1) (lost + n) its'
theorem without_keys {its : List Itm} {key : ByteArray} (h : (its.map Itm.key).Nodup) : ∀ y ∈ without its key, y.key ≠ key := by
  intro y hy
  unfold without at hy
  cases e : atN its key with
  | none => rw [e] at hy; exact at_none e y hy
  | some k =>
    rw [e] at hy
    obtain ⟨hk, hkk⟩ := at_split e
    simp only [List.eraseIdx_eq_take_drop_succ] at hy
    rw [order_split hk, List.map_append, List.map_cons, List.nodup_append] at h
    have hkey : its[k].key = key := by rw [← hkk, List.getD_eq_getElem?_getD, List.getElem?_eq_getElem hk]; rfl
    rcases List.mem_append.1 hy with h1 | h1
    · intro e2
      exact h.2.2 _ (List.mem_map_of_mem h1) _ (by simp) (e2.trans hkey.symm)
    · intro e2
      exact (List.nodup_cons.1 h.2.1).1 (by rw [hkey, ← e2]; exact List.mem_map_of_mem h1)
theorem without_len (its : List Itm) (key : ByteArray) : (without its key).length ≤ its.length := by
  unfold without
  cases e : atN its key with
  | none => exact Nat.le_refl _
  | some k => exact List.length_eraseIdx_le _ _
/-- take, as one contract. -/
theorem take_wo (w : World) (hb : Nat) (S : List Nat) (lim nx lost : Int) (its : List Itm) (key : ByteArray) (hs : Shelf w hb S lim nx lost its) (hl : its.length ≤ 100) (hkey : key.size ≤ maxLen) :
    Calls Tryz.prog 116 #[.pointer (some ⟨hb, 0, none⟩), .string key] w fun e w' => (∃ x c, e = .returned (.tuple #[itemV x, .bool c])) ∧ Step w w' hb S lim nx lost (without its key) := by
  unfold without
  cases e : atN its key with
  | none =>
    refine (take_none w hb S lim nx lost its key hs hkey e).mono ?_
    rintro e' w' ⟨rfl, hb'⟩
    exact ⟨⟨zero, false, rfl⟩, step_more (step_refl hs) (Keeps.of_below (S := []) hb' (fun _ h1 _ => h1))⟩
  | some k =>
    refine (take_some w hb S lim nx lost its key k hs hl hkey e).mono ?_
    rintro e' w' ⟨rfl, hst⟩
    exact ⟨⟨_, true, rfl⟩, hst⟩

theorem lcell4' {w w' : World} {g : Nat} {t : TypeId} {v0 v1 v2 v3 v4 : Value} (hb : w'.heap[g]? = w.heap[g]?) (h : w.heap[g]? = some (.cells #[v0, v1, v2, v3, v4] t (0, 0))) :
    w'.cell? ⟨g, 0, none⟩ = some v0 ∧ w'.cell? ⟨g, 1, none⟩ = some v1 ∧ w'.cell? ⟨g, 2, none⟩ = some v2 ∧ w'.cell? ⟨g, 3, none⟩ = some v3 ∧ w'.cell? ⟨g, 4, none⟩ = some v4 := lcell4 (hb.trans h)
theorem bx5 (w : World) (t : TypeId) (v0 v1 v2 v3 v4 : Value) : (w.alloc (.cells #[v0, v1, v2, v3, v4] t)).cell? ⟨w.heap.size, 0, none⟩ = some v0 ∧ (w.alloc (.cells #[v0, v1, v2, v3, v4] t)).cell? ⟨w.heap.size, 1, none⟩ = some v1 ∧
    (w.alloc (.cells #[v0, v1, v2, v3, v4] t)).cell? ⟨w.heap.size, 2, none⟩ = some v2 ∧ (w.alloc (.cells #[v0, v1, v2, v3, v4] t)).cell? ⟨w.heap.size, 3, none⟩ = some v3 ∧ (w.alloc (.cells #[v0, v1, v2, v3, v4] t)).cell? ⟨w.heap.size, 4, none⟩ = some v4 := by
  refine ⟨?_, ?_, ?_, ?_, ?_⟩ <;> (rw [World.cell?_alloc_new]; rfl)

set_option maxRecDepth 10000 in
set_option maxHeartbeats 2000000 in
theorem put_shelf (w : World) (hb : Nat) (S : List Nat) (lim nx lost : Int) (its : List Itm) (x : Itm) (p : Addr) (hs : Shelf w hb S lim nx lost its) (hF : FullIs w p) (hl : its.length ≤ 60) (hx : Small x) (hlim : 0 ≤ lim ∧ lim ≤ 10000) (hlo : 0 ≤ lost ∧ lost ≤ 500) :
    Calls Tryz.prog 151 #[.pointer (some ⟨hb, 0, none⟩), .agg #[.string x.key, .int .i64 x.flags, .string x.data, .int .i64 x.upto, .int .i64 x.token]] w (PutEnd w hb S lim nx lost its x p) := by
  obtain ⟨r0, r1, r2, r3, rf, bm', r6, -⟩ := shelf_reads hs
  have hwl := (shelf_in hs).2
  have HS := hide hs
  have HX := hide hx
  have HFU := hide hF
  clear hF
  have hch : 0 ≤ charge x ∧ charge x ≤ 2097162 := by have := hx; unfold Small at this; unfold charge; omega
  have hcal := fun w => chargeOf_any x w hx
  by_cases g1 : lim < charge x
  · have HF1 : Hid (∀ w', Keeps [] w w' → PutEnd w hb S lim nx lost its x p (.panicked (fullP p)) w') := by
      intro w' hk
      unfold PutEnd
      rw [if_pos g1]
      exact ⟨rfl, step_more (step_refl (unhide HS)) hk⟩
    generalize charge x = c at hch hcal g1
    have HC := hide hcal
    have d1 : decide (lim < c) = true := decide_eq_true g1
    clear hcal
    obtain ⟨KE, hKE⟩ : ∃ KE : Ending → World → Prop, KE = PutEnd w hb S lim nx lost its x p := ⟨_, rfl⟩
    rw [← hKE] at HF1 ⊢
    have HKE := hide hKE
    clear hKE
    show Calls _ _ _ w (fun e w' => KE e w')
    obtain ⟨k0, k1, k2, k3, k4⟩ := bx5 w 94 (.string x.key) (.int .i64 x.flags) (.string x.data) (.int .i64 x.upto) (.int .i64 x.token)
    have p0 := cell_regrown k0
    have p1 := cell_regrown k1
    have p2 := cell_regrown k2
    have p3 := cell_regrown k3
    have p4 := cell_regrown k4
    have p5 := cell_regrown ((World.cell?_of_block (a := ⟨hb, 0, none⟩) (Below.heap_alloc w (.cells #[.string x.key, .int .i64 x.flags, .string x.data, .int .i64 x.upto, .int .i64 x.token] 94) hb hwl)).trans r0)
    have cC := fun d os => Calls.regrown_of (unhide HC (Go.Sort.grow (redrawn (w.alloc (.cells #[.string x.key, .int .i64 x.flags, .string x.data, .int .i64 x.upto, .int .i64 x.token] 94)) d) os))
    have hmix : Tryz.prog.follows .mixedOrders = true := by kernel_rfl
    go_enter Tryz.func151, Tryz.ntmps151
    go_wp2_with fail
    refine wp_region_quiet_below hmix (by kernel_rfl) ?_
    repeat (quiet_step (exact cC _ _))
    refine wpQuiet_nil ?_
    intro _ hw'
    obtain ⟨⟨dq, osq⟩, hw''⟩ := hw'
    subst hw''
    have hkc := hide (Keeps.of_below (S := []) (below_regrown (w.alloc (.cells #[.string x.key, .int .i64 x.flags, .string x.data, .int .i64 x.upto, .int .i64 x.token] 94)) dq osq) (fun _ h1 _ => h1))
    generalize (Go.Sort.grow (redrawn (w.alloc (.cells #[.string x.key, .int .i64 x.flags, .string x.data, .int .i64 x.upto, .int .i64 x.token] 94)) dq) osq) = wc at hkc ⊢
    clear p0 p1 p2 p3 p4 p5 cC
    have hK0 := hide (((Keeps.refl [] w).alloc (.cells #[.string x.key, .int .i64 x.flags, .string x.data, .int .i64 x.upto, .int .i64 x.token] 94)).trans (unhide hkc) (by simp))
    have hfc := ((unhide HFU).keep (unhide hK0) (by simp)).cell
    unfold errV at hfc
    go_wp2
    exact gave (unhide HF1 _ (unhide hK0))
  have hwl2 := without_len its x.key
  have HW := hide (without_keys (key := x.key) (shelf_keys hs).1)
  have HP : Hid (∀ w', Step w w' hb S lim nx (lost + trimN lim (without its x.key ++ [x])) ((without its x.key ++ [x]).drop (trimN lim (without its x.key ++ [x]))) → PutEnd w hb S lim nx lost its x p (.returned (.tuple #[])) w') := by
    intro w' h
    unfold PutEnd
    rw [if_neg g1]
    exact ⟨rfl, h⟩
  obtain ⟨KE, hKE⟩ : ∃ KE : Ending → World → Prop, KE = PutEnd w hb S lim nx lost its x p := ⟨_, rfl⟩
  rw [← hKE] at HP ⊢
  have HKE := hide hKE
  clear hKE
  generalize charge x = c at hch hcal g1
  have HC := hide hcal
  have d1 : decide (lim < c) = false := decide_eq_false g1
  clear hcal
  show Calls _ _ _ w (fun e w' => KE e w')
  obtain ⟨k0, k1, k2, k3, k4⟩ := bx5 w 94 (.string x.key) (.int .i64 x.flags) (.string x.data) (.int .i64 x.upto) (.int .i64 x.token)
  have p0 := cell_regrown k0
  have p1 := cell_regrown k1
  have p2 := cell_regrown k2
  have p3 := cell_regrown k3
  have p4 := cell_regrown k4
  have p5 := cell_regrown ((World.cell?_of_block (a := ⟨hb, 0, none⟩) (Below.heap_alloc w (.cells #[.string x.key, .int .i64 x.flags, .string x.data, .int .i64 x.upto, .int .i64 x.token] 94) hb hwl)).trans r0)
  have cC := fun d os => Calls.regrown_of (unhide HC (Go.Sort.grow (redrawn (w.alloc (.cells #[.string x.key, .int .i64 x.flags, .string x.data, .int .i64 x.upto, .int .i64 x.token] 94)) d) os))
  have hmix : Tryz.prog.follows .mixedOrders = true := by kernel_rfl
  go_enter Tryz.func151, Tryz.ntmps151
  go_wp2_with fail
  refine wp_region_quiet_below hmix (by kernel_rfl) ?_
  repeat (quiet_step (exact cC _ _))
  refine wpQuiet_nil ?_
  intro _ hw'
  obtain ⟨⟨dq, osq⟩, hw''⟩ := hw'
  subst hw''
  have hkc := hide (Keeps.of_below (S := []) (below_regrown (w.alloc (.cells #[.string x.key, .int .i64 x.flags, .string x.data, .int .i64 x.upto, .int .i64 x.token] 94)) dq osq) (fun _ h1 _ => h1))
  generalize (Go.Sort.grow (redrawn (w.alloc (.cells #[.string x.key, .int .i64 x.flags, .string x.data, .int .i64 x.upto, .int .i64 x.token] 94)) dq) osq) = wc at hkc ⊢
  clear p0 p1 p2 p3 p4 p5 cC
  have hK0 := hide (((Keeps.refl [] w).alloc (.cells #[.string x.key, .int .i64 x.flags, .string x.data, .int .i64 x.upto, .int .i64 x.token] 94)).trans (unhide hkc) (by simp))
  have q5 := lcell4' ((unhide hkc).block w.heap.size (by simp) (by simp)) (heap_alloc_new w (.cells #[.string x.key, .int .i64 x.flags, .string x.data, .int .i64 x.upto, .int .i64 x.token] 94))
  obtain ⟨z0, z1, z2, z3, z4⟩ := q5
  go_wp2_with fail
  have hxk : x.key.size ≤ maxLen := by have := (unhide HX).1; unfold maxLen; omega
  refine (take_wo _ hb S lim nx lost its x.key ((unhide HS).keep (unhide hK0) (by simp)) (by omega) hxk).mono ?_
  rintro e w2 ⟨⟨y, cc, rfl⟩, hst2⟩
  have hwn : w.heap.size ∉ S := fun hm => by have := hs.lt _ hm; omega
  have hzc : w.heap.size < wc.heap.size := by have := (unhide hkc).size; simp at this; omega
  obtain ⟨S2, hs2, hS2, hk2⟩ := hst2
  have hb2 := hk2.block w.heap.size hzc hwn
  obtain ⟨y0, y1, y2, y3, y4⟩ := lcell4' (hb2.trans ((unhide hkc).block w.heap.size (by simp) (by simp))) (heap_alloc_new w (.cells #[.string x.key, .int .i64 x.flags, .string x.data, .int .i64 x.upto, .int .i64 x.token] 94))
  have HS2 := hide hs2
  have HSA : Hid (∀ b ∈ S2, b ∈ S ∨ w.heap.size ≤ b) := fun b hb' => (hS2 b hb').imp id (fun e => by omega)
  have HKA := hide (((unhide hK0).mono (S' := S) (by simp)).trans hk2 (fun y hy => .inl hy))
  clear z0 z1 z2 z3 z4 hs2 hS2 hk2 hs hx
  unfold itemV
  go_wp2_with fail
  refine (putLast_shelf _ hb S2 lim nx lost (without its x.key) x (unhide HS2) (by omega) (unhide HX) (unhide HW)).mono ?_
  rintro e w3 ⟨rfl, hst3⟩
  have hst3' := step_go (unhide HKA) (unhide HSA) hst3
  obtain ⟨S3, hs3, hS3, hk3⟩ := hst3'
  have HS3 := hide hs3
  have HSS3 := hide hS3
  have HK3 := hide hk3
  clear hst3 hs3 hS3 hk3 y0 y1 y2 y3 y4
  go_wp2_with fail
  refine (makeRoom_shelf _ hb S3 lim nx lost (without its x.key ++ [x]) (unhide HS3) (by simp; omega) (by omega)).mono ?_
  rintro e w4 ⟨rfl, hst4⟩
  have HF := hide (unhide HP w4 (step_go (unhide HK3) (unhide HSS3) hst4))
  clear hst4
  go_wp2
  first
  | exact bodyPost_end (v := .tuple #[]) (by simp [results, Tryz.results151, go_sem]) rfl (unhide HF)
  | exact unhide HF

set_option maxRecDepth 10000 in
set_option maxHeartbeats 2000000 in
theorem keep_shelf (w : World) (hb : Nat) (S : List Nat) (lim nx lost : Int) (its : List Itm) (x : Itm) (ans : ByteArray) (p : Addr) (hs : Shelf w hb S lim nx lost its) (hF : FullIs w p) (hl : its.length ≤ 60) (hx : Small x) (hlim : 0 ≤ lim ∧ lim ≤ 10000) (hnx : 1 ≤ nx ∧ nx ≤ 1000000000) (hlo : 0 ≤ lost ∧ lost ≤ 500) :
    Calls Tryz.prog 206 #[.pointer (some ⟨hb, 0, none⟩), .agg #[.string x.key, .int .i64 x.flags, .string x.data, .int .i64 x.upto, .int .i64 x.token], .string ans] w (KeepEnd w hb S lim nx lost its x ans p) := by
  obtain ⟨r0, r1, r2, r3, rf, bm', r6, -⟩ := shelf_reads hs
  have hwl := (shelf_in hs).2
  have HIN := hide (shelf_in hs).1
  have HS := hide hs
  have HFU := hide hF
  obtain ⟨KE, hKE⟩ : ∃ KE : Ending → World → Prop, KE = KeepEnd w hb S lim nx lost its x ans p := ⟨_, rfl⟩
  have HNO : Hid ((lim < charge x ∨ nx = 1000000000) → ∀ w', Step w w' hb S lim nx lost its → KE (.panicked (fullP p)) w') := by
    intro hor w' hk
    rw [hKE]
    unfold KeepEnd
    have H : putR lim nx its x = none := by unfold putR; rw [if_pos hor]
    rw [H]
    exact ⟨rfl, hk⟩
  have HYES : Hid (¬ (lim < charge x ∨ nx = 1000000000) → ∀ w', Step w w' hb S lim (nx + 1) (lost + trimN lim (without its x.key ++ [{ x with token := nx }])) ((without its x.key ++ [{ x with token := nx }]).drop (trimN lim (without its x.key ++ [{ x with token := nx }]))) → KE (.returned (.string ans)) w') := by
    intro hor w' h
    rw [hKE]
    unfold KeepEnd
    have e : putR lim nx its x = some ((without its x.key ++ [{ x with token := nx }]).drop (trimN lim (without its x.key ++ [{ x with token := nx }])), trimN lim (without its x.key ++ [{ x with token := nx }])) := by
      unfold putR
      rw [if_neg hor]
    rw [e]
    exact ⟨rfl, h⟩
  have HPUT := hide (fun w1 (h1 : Shelf w1 hb S lim nx lost its) (h2 : FullIs w1 p) => put_shelf w1 hb S lim nx lost its { x with token := nx } p h1 h2 hl hx hlim hlo)
  rw [← hKE]
  have HKE := hide hKE
  clear hKE
  show Calls _ _ _ w (fun e w' => KE e w')
  by_cases g2 : nx = 1000000000
  · have HF1 := hide (unhide HNO (.inr g2))
    clear HYES HNO HPUT
    have hfc := (hF.keep ((Keeps.refl [] w).alloc (.cells #[.string x.key, .int .i64 x.flags, .string x.data, .int .i64 x.upto, .int .i64 x.token] 94)) (by simp)).cell
    unfold errV at hfc
    clear hs hF
    subst g2
    go_enter Tryz.func206, Tryz.ntmps206
    go_wp2
    exact gave (unhide HF1 _ (step_more (step_refl (unhide HS)) ((Keeps.refl [] w).alloc _)))
  have hwn : w.heap.size ∉ S := fun hm => by have := hs.lt _ hm; omega
  have hk1 : Keeps [] w (w.alloc (.cells #[.string x.key, .int .i64 x.flags, .string x.data, .int .i64 x.upto, .int .i64 nx] 94)) := (Keeps.refl [] w).alloc _
  have HP1 := hide (unhide HPUT _ (hs.keep hk1 (by simp)) (hF.keep hk1 (by simp)))
  have HK1 := hide hk1
  have hnx2 : IntKind.i64.wrap (nx + 1) = nx + 1 := by rw [IntKind.wrap_i64]; omega
  have hne : ¬ hb = w.heap.size := by omega
  have d2 : decide (nx = 1000000000) = false := decide_eq_false g2
  clear hk1 HPUT hs hF
  by_cases g1 : lim < charge x
  · have HF1 := hide (unhide HNO (.inl g1))
    have HP2 : Hid (Calls Tryz.prog 151 #[.pointer (some ⟨hb, 0, none⟩), .agg #[.string x.key, .int .i64 x.flags, .string x.data, .int .i64 x.upto, .int .i64 nx]] (w.alloc (.cells #[.string x.key, .int .i64 x.flags, .string x.data, .int .i64 x.upto, .int .i64 nx] 94)) fun e w' => e = .panicked (fullP p) ∧ Step (w.alloc (.cells #[.string x.key, .int .i64 x.flags, .string x.data, .int .i64 x.upto, .int .i64 nx] 94)) w' hb S lim nx lost its) :=
      (unhide HP1).mono fun e w' h => by unfold PutEnd at h; rw [if_pos (show lim < charge { x with token := nx } from g1)] at h; exact h
    clear HYES HNO HP1 g1 hlim hlo hnx
    go_enter Tryz.func206, Tryz.ntmps206
    go_wp2_with fail
    refine (unhide HP2).mono ?_
    rintro e w1 ⟨rfl, hst⟩
    have HST := hide (unhide HF1 _ (step_go ((unhide HK1).mono (S' := S) (by simp)) (fun b hb' => .inl hb') hst))
    clear hst
    go_wp2
    exact gave (unhide HST)
  · have HF1 := hide (unhide HYES (fun h => h.elim g1 g2))
    have HP2 : Hid (Calls Tryz.prog 151 #[.pointer (some ⟨hb, 0, none⟩), .agg #[.string x.key, .int .i64 x.flags, .string x.data, .int .i64 x.upto, .int .i64 nx]] (w.alloc (.cells #[.string x.key, .int .i64 x.flags, .string x.data, .int .i64 x.upto, .int .i64 nx] 94)) fun e w' => e = .returned (.tuple #[]) ∧ Step (w.alloc (.cells #[.string x.key, .int .i64 x.flags, .string x.data, .int .i64 x.upto, .int .i64 nx] 94)) w' hb S lim nx (lost + trimN lim (without its x.key ++ [{ x with token := nx }])) ((without its x.key ++ [{ x with token := nx }]).drop (trimN lim (without its x.key ++ [{ x with token := nx }])))) :=
      (unhide HP1).mono fun e w' h => by unfold PutEnd at h; rw [if_neg (show ¬ lim < charge { x with token := nx } from g1)] at h; exact h
    clear HYES HNO HP1 g1 hlim hlo hnx
    generalize (without its x.key ++ [{ x with token := nx }]).drop (trimN lim (without its x.key ++ [{ x with token := nx }])) = r at HF1 HP2
    generalize (trimN lim (without its x.key ++ [{ x with token := nx }])) = n at HF1 HP2
    go_enter Tryz.func206, Tryz.ntmps206
    go_wp2_with fail
    refine (unhide HP2).mono ?_
    rintro e w1 ⟨rfl, hst⟩
    have hst1 := step_go ((unhide HK1).mono (S' := S) (by simp)) (fun b hb' => .inl hb') hst
    have HST := hide (step_next hst1 (unhide HIN) (nx + 1))
    obtain ⟨S1, hs1, -, -⟩ := hst1
    obtain ⟨t0, t1, t2, t3, tf, bm2, t6, -⟩ := shelf_reads hs1
    clear hst hs1 r0 r1 r2 r3 rf r6 t0 t2 t3 t6
    go_wp2
    exact unhide HF1 _ (unhide HST)
end Shelf
end Go.Proofs.YtjgfedmgmfpapaaGreatDoor
/-
  The program's gaveUp: whether what is done gives up.
-/
namespace Go.Proofs.YtjgfedmgmfpapaaGreatDoor
namespace Shelf
open Go.RowKit Base Keep
set_option linter.unusedVariables false

theorem cellOf {w : World} {b : Nat} {v : Value} {t : TypeId} (h : w.heap[b]? = some (.cells #[v] t (0, 0))) : w.cell? ⟨b, 0, none⟩ = some v := by simp [World.cell?, h]
theorem frozenOf {w : World} {b : Nat} {cs : Array Value} {t : TypeId} (h : w.heap[b]? = some (.cells cs t (0, 0))) : w.frozen? ⟨b, 0, none⟩ = false := by simp [World.frozen?, h]
theorem nil_no (p : Addr) (w : World) : (binOp BinOp.eql 20 (.iface 267 (.pointer (some p))) .nilIface).run Tryz.prog w = .ok (.bool false) w := by kernel_rfl
theorem nil_yes (w : World) : (binOp BinOp.eql 20 .nilIface .nilIface).run Tryz.prog w = .ok (.bool true) w := by kernel_rfl
theorem infoP : (Tryz.prog.info? 267).map (·.comparable) = some true := by kernel_rfl
theorem infoE : (Tryz.prog.info? 269).isSome = true := by kernel_rfl
theorem same_yes {P : Program} {ti tp te : TypeId} {ms : Array (String × TypeId)} (p : Addr) (w : World) (h1 : (P.info? tp).map (·.comparable) = some true) (h3 : (P.info? te).isSome = true) (hi : P.underlying ti = some (.interface ms)) (hp : P.underlying tp = some (.pointer te)) :
    (binOp BinOp.eql ti (.iface tp (.pointer (some p))) (.iface tp (.pointer (some p)))).run P w = .ok (.bool true) w := by
  obtain ⟨i, h1, h2⟩ := Option.map_eq_some_iff.1 h1
  obtain ⟨j, h3⟩ := Option.isSome_iff_exists.1 h3
  exact run_eql_iface_ptr_same w p hi hp h1 h2 h3
theorem full_yes (p : Addr) (w : World) : (binOp BinOp.eql 20 (.iface 267 (.pointer (some p))) (.iface 267 (.pointer (some p)))).run Tryz.prog w = .ok (.bool true) w :=
  same_yes p w infoP infoE Tryz.underlying20 Tryz.underlying267
set_option maxRecDepth 10000 in
set_option maxHeartbeats 400000 in
theorem catch_full (b p : Addr) (w : World) (older : List PanicEntry) (hc : w.cell? b = some (.bool false)) (hz : w.frozen? b = false) (hF : FullIs w p) :
    CallsD Tryz.prog 171 #[.pointer (some b)] (.panicking ({ v := errV p, recovered := false } :: older)) w fun e u' w' =>
      e = .returned (.tuple #[]) ∧ u' = .panicking ({ v := errV p, recovered := true } :: older) ∧ w' = w.setCell b (.bool true) := by
  have hf := hF.cell
  unfold errV at hf ⊢
  have e1 := nil_no p
  have e2 := full_yes p
  have e3 : ∀ (x y : Operand) (w : World), (eqGuard BinOp.eql 20 x y (.iface 267 (.pointer (some p))) (.iface 267 (.pointer (some p)))).run Tryz.prog w = .ok () w := fun _ _ _ => rfl
  clear hF
  refine callsD_of_wpS Tryz.func171 rfl fun c₀ cs hu => ?_
  apply wpS_seq
  apply wpS_region
  simp [wpOpsS, go_sem, recoverD, hu, Tryz.ntmps171, Exit.thenS]
  have ht : (#[.pointer (some b)] ++ ((Array.replicate 9 undef).setIfInBounds 1 (.iface 267 (.pointer (some p)))).setIfInBounds 0 (.iface 267 (.pointer (some p))) : Array Value) = #[.pointer (some b), .iface 267 (.pointer (some p)), .iface 267 (.pointer (some p)), undef, undef, undef, undef, undef, undef, undef] := rfl
  rw [ht]
  clear ht
  refine wpS_of_wp ?_
  go_upto_region 4 with fail
  generalize hE : (Value.iface 267 (.pointer (some p))) = E at *
  go_wp2
  simp [bodyPostS, results, Tryz.results171]
set_option maxRecDepth 10000 in
theorem catch_idle (b : Addr) (w : World) :
    CallsD Tryz.prog 171 #[.pointer (some b)] .returning w fun e u' w' => e = .returned (.tuple #[]) ∧ u' = .returning ∧ w' = w := by
  have e1 := nil_yes
  refine callsD_of_wpS Tryz.func171 rfl fun c₀ cs hu => ?_
  apply wpS_seq
  apply wpS_region
  simp [wpOpsS, go_sem, recoverD, hu, Tryz.ntmps171, Exit.thenS]
  refine wpS_of_wp ?_
  go_wp2
  cases c₀
  simp_all [bodyPostS, results, Tryz.results171]
set_option maxRecDepth 10000 in
/-- gaveUp over what is done: it returns, or it gives up. -/
theorem gaveUp_any (f : Nat) (cap : Array Value) (w : World) (p : Addr) (Q : Bool → World → Prop)
    (hcf : ∀ w, (callFunc f cap).run Tryz.prog w = .ok (.enter f cap) w)
    (h : Calls Tryz.prog f cap (w.alloc (.cells #[.bool false] 4)) fun e w' => ((e = .returned (.tuple #[]) ∧ Q false w') ∨ (e = .panicked (fullP p) ∧ Q true w')) ∧ w'.heap[w.heap.size]? = some (.cells #[.bool false] 4 (0, 0)) ∧ FullIs w' p) :
    Calls Tryz.prog 149 #[.func (.func f) #[] cap] w fun e w' => ∃ full w1, e = .returned (.bool full) ∧ Q full w1 ∧ w' = w1.setCell ⟨w.heap.size, 0, none⟩ (.bool full) := by
  have hmf : ∀ (fn : Fn) (first cap : Array Value) (w : World), (Instr.makeFunc fn first cap).run Tryz.prog w = .ok (.func fn first cap) w := fun _ _ _ _ => rfl
  have HD := hide h
  clear h
  go_enter_defers Tryz.func149, Tryz.ntmps149
  go_wp2_with fail
  refine (unhide HD).mono ?_
  rintro e w1 ⟨he, hbx, hfu⟩
  have HB := hide hbx
  have HF := hide hfu
  have hc := frozenOf hbx
  have hd := cellOf hbx
  clear hbx hfu
  rcases he with ⟨rfl, hq⟩ | ⟨rfl, hq⟩
  · have HQ := hide hq
    clear hq
    go_wp2
    refine leaves_cons (f := 171) (args := #[.pointer (some ⟨w.heap.size, 0, none⟩)]) (by simp) (by simp [go_sem]) ?_
    refine (catch_idle ⟨w.heap.size, 0, none⟩ _).mono ?_
    rintro e u' w'' ⟨rfl, rfl, rfl⟩
    simp [Leaves, settle, results, Tryz.results149, go_sem, hd]
    exact ⟨w1, unhide HQ, rfl⟩
  · have HQ := hide hq
    clear hq
    unfold fullP
    go_wp2
    refine leaves_cons (f := 171) (args := #[.pointer (some ⟨w.heap.size, 0, none⟩)]) (by simp) (by simp [go_sem]) ?_
    refine (catch_full ⟨w.heap.size, 0, none⟩ p w1 [] hd hc (unhide HF)).mono ?_
    rintro e u' w'' ⟨rfl, rfl, rfl⟩
    simp [Leaves, settle, results, Tryz.results149, go_sem, hd]
    exact ⟨w1, unhide HQ, rfl⟩
end Shelf
end Go.Proofs.YtjgfedmgmfpapaaGreatDoor
/-
  The program's (*place).takeIn: an item that was moved is put; where it has no room it is counted as lost.
-/
namespace Go.Proofs.YtjgfedmgmfpapaaGreatDoor
namespace Fleet
open Go.RowKit Base Store Items OwnR Keep Clus Marks Plc
open _root_.Go.Proofs.YtjgfedmgmfpapaaGreatDoor.Shelf (FullIs fullP PutEnd step_refl step_go step_more step_lost step_next)
set_option linter.unusedVariables false

/-- The number of the next token behind an item that is taken in. -/
def tkNx (nx : Int) (x : Itm) : Int := max nx (x.token + 1)
/-- The number of the lost behind it. -/
def tkLost (lim lost : Int) (its : List Itm) (x : Itm) : Int := if lim < charge x then lost + 1 else lost + trimN lim (without its x.key ++ [x])
/-- What is there behind it. -/
def tkIts (lim : Int) (its : List Itm) (x : Itm) : List Itm := if lim < charge x then its else (without its x.key ++ [x]).drop (trimN lim (without its x.key ++ [x]))

set_option maxRecDepth 10000 in
set_option maxHeartbeats 2000000 in
theorem takeIn1_any (w : World) (pb hb bp bi : Nat) (S : List Nat) (lim nx lost : Int) (its : List Itm) (x : Itm) (p : Addr) (hs : _root_.Go.Proofs.YtjgfedmgmfpapaaGreatDoor.Shelf.Shelf w hb S lim nx lost its) (hF : FullIs w p) (hl : its.length ≤ 60) (hx : Small x) (hlim : 0 ≤ lim ∧ lim ≤ 10000) (hlo : 0 ≤ lost ∧ lost ≤ 500)
    (hp : w.cell? ⟨pb, 0, none⟩ = some (.pointer (some ⟨hb, 0, none⟩))) (h1 : w.cell? ⟨bp, 0, none⟩ = some (.pointer (some ⟨pb, 0, none⟩)))
    (h2 : w.heap[bi]? = some (.cells #[.string x.key, .int .i64 x.flags, .string x.data, .int .i64 x.upto, .int .i64 x.token] 94 (0, 0))) :
    Calls Tryz.prog 150 #[.pointer (some ⟨bp, 0, none⟩), .pointer (some ⟨bi, 0, none⟩)] w (PutEnd w hb S lim nx lost its x p) := by
  obtain ⟨i0, i1, i2, i3, i4⟩ := _root_.Go.Proofs.YtjgfedmgmfpapaaGreatDoor.Chain.lcell4 h2
  have HP : Hid (∀ u, Keeps [] w u → Calls Tryz.prog 151 #[.pointer (some ⟨hb, 0, none⟩), .agg #[.string x.key, .int .i64 x.flags, .string x.data, .int .i64 x.upto, .int .i64 x.token]] u (PutEnd w hb S lim nx lost its x p)) := fun u hu =>
    (_root_.Go.Proofs.YtjgfedmgmfpapaaGreatDoor.Shelf.put_shelf u hb S lim nx lost its x p (hs.keep hu (by simp)) (hF.keep hu (by simp)) hl hx hlim hlo).mono fun e w' h => by
      unfold PutEnd at h ⊢
      split
      · rename_i hc; rw [if_pos hc] at h; exact ⟨h.1, step_go (hu.mono (S' := S) (by simp)) (fun b hb' => .inl hb') h.2⟩
      · rename_i hc; rw [if_neg hc] at h; exact ⟨h.1, step_go (hu.mono (S' := S) (by simp)) (fun b hb' => .inl hb') h.2⟩
  clear hs hF hl hx hlim hlo h2
  by_cases hc : lim < charge x
  · have HP1 : Hid (∀ u, Keeps [] w u → Calls Tryz.prog 151 #[.pointer (some ⟨hb, 0, none⟩), .agg #[.string x.key, .int .i64 x.flags, .string x.data, .int .i64 x.upto, .int .i64 x.token]] u fun e w' => e = .panicked (fullP p) ∧ PutEnd w hb S lim nx lost its x p e w') := fun u hu =>
      (unhide HP u hu).mono fun e w' h => ⟨by unfold PutEnd at h; rw [if_pos hc] at h; exact h.1, h⟩
    generalize PutEnd w hb S lim nx lost its x p = PE at HP1 ⊢
    clear HP hc
    go_enter Tryz.func150, Tryz.ntmps150
    go_wp2_with fail
    go_still_tail 5, (by kernel_rfl)
    go_wp2_with fail
    refine (unhide HP1 _ (Keeps.refl _ _).drew).mono ?_
    rintro e w1 ⟨rfl, h4⟩
    exact _root_.Go.Proofs.YtjgfedmgmfpapaaGreatDoor.Shelf.gave h4
  · have HP1 : Hid (∀ u, Keeps [] w u → Calls Tryz.prog 151 #[.pointer (some ⟨hb, 0, none⟩), .agg #[.string x.key, .int .i64 x.flags, .string x.data, .int .i64 x.upto, .int .i64 x.token]] u fun e w' => e = .returned (.tuple #[]) ∧ PutEnd w hb S lim nx lost its x p e w') := fun u hu =>
      (unhide HP u hu).mono fun e w' h => ⟨by unfold PutEnd at h; rw [if_neg hc] at h; exact h.1, h⟩
    generalize PutEnd w hb S lim nx lost its x p = PE at HP1 ⊢
    clear HP hc
    go_enter Tryz.func150, Tryz.ntmps150
    go_wp2_with fail
    go_region_with (go_at_call 151; refine (unhide HP1 _ (Keeps.refl _ _).drew).mono ?_; rintro e w1 ⟨rfl, h4⟩; have H4 := hide h4; clear h4)
    all_goals
      go_end0
      exact unhide H4

theorem callTk (cap : Array Value) (w : World) : (callFunc 150 cap).run Tryz.prog w = .ok (.enter 150 cap) w := by
  simp [go_sem]
/-- gaveUp over takeIn's closure. -/
theorem gaveTk (V : World) (pb hb bp bi : Nat) (S : List Nat) (lim nx lost : Int) (its : List Itm) (x : Itm) (p : Addr) (hs : _root_.Go.Proofs.YtjgfedmgmfpapaaGreatDoor.Shelf.Shelf V hb S lim nx lost its) (hF : FullIs V p) (hFS : 0 ∉ S) (hl : its.length ≤ 60) (hx : Small x) (hlim : 0 ≤ lim ∧ lim ≤ 10000) (hlo : 0 ≤ lost ∧ lost ≤ 500)
    (hp : V.cell? ⟨pb, 0, none⟩ = some (.pointer (some ⟨hb, 0, none⟩))) (h1 : V.cell? ⟨bp, 0, none⟩ = some (.pointer (some ⟨pb, 0, none⟩)))
    (h2 : V.heap[bi]? = some (.cells #[.string x.key, .int .i64 x.flags, .string x.data, .int .i64 x.upto, .int .i64 x.token] 94 (0, 0))) :
    Calls Tryz.prog 149 #[.func (.func 150) #[] #[.pointer (some ⟨bp, 0, none⟩), .pointer (some ⟨bi, 0, none⟩)]] V fun e w' => e = .returned (.bool (decide (lim < charge x))) ∧ _root_.Go.Proofs.YtjgfedmgmfpapaaGreatDoor.Shelf.Step V w' hb S lim nx (if lim < charge x then lost else lost + trimN lim (without its x.key ++ [x])) (tkIts lim its x) := by
  have hk : Keeps [] V (V.alloc (.cells #[.bool false] 4)) := (Keeps.refl [] V).alloc _
  have hVS : V.heap.size ∉ S := fun hm => by have := hs.lt _ hm; omega
  have h3 := takeIn1_any (V.alloc (.cells #[.bool false] 4)) pb hb bp bi S lim nx lost its x p (hs.keep hk (by simp)) (hF.keep hk (by simp)) hl hx hlim hlo
    ((World.cell?_of_block (a := ⟨pb, 0, none⟩) (hk.block _ (block_lt_of_cell hp) (by simp))).trans hp) ((World.cell?_of_block (a := ⟨bp, 0, none⟩) (hk.block _ (block_lt_of_cell h1) (by simp))).trans h1) ((hk.block _ (Array.getElem?_eq_some_iff.1 h2).1 (by simp)).trans h2)
  have h4 := _root_.Go.Proofs.YtjgfedmgmfpapaaGreatDoor.Shelf.gaveUp_any 150 #[.pointer (some ⟨bp, 0, none⟩), .pointer (some ⟨bi, 0, none⟩)] V p
    (fun full w' => full = decide (lim < charge x) ∧ _root_.Go.Proofs.YtjgfedmgmfpapaaGreatDoor.Shelf.Step (V.alloc (.cells #[.bool false] 4)) w' hb S lim nx (if lim < charge x then lost else lost + trimN lim (without its x.key ++ [x])) (tkIts lim its x)) (fun w => callTk _ w)
    (h3.mono fun e w' h => by
      have hst : _root_.Go.Proofs.YtjgfedmgmfpapaaGreatDoor.Shelf.Step (V.alloc (.cells #[.bool false] 4)) w' hb S lim nx (if lim < charge x then lost else lost + trimN lim (without its x.key ++ [x])) (tkIts lim its x) := by
        unfold PutEnd at h; unfold tkIts
        by_cases hc : lim < charge x
        · rw [if_pos hc] at h; rw [if_pos hc, if_pos hc]; exact h.2
        · rw [if_neg hc] at h; rw [if_neg hc, if_neg hc]; exact h.2
      have hkk := hst.choose_spec.2.2
      refine ⟨?_, (hkk.block _ (by simp) hVS).trans (heap_alloc_new _ _), (hF.keep hk (by simp)).keep hkk hFS⟩
      unfold PutEnd at h
      by_cases hc : lim < charge x
      · rw [if_pos hc] at h; exact .inr ⟨h.1, (decide_eq_true hc).symm, hst⟩
      · rw [if_neg hc] at h; exact .inl ⟨h.1, (decide_eq_false hc).symm, hst⟩)
  refine h4.mono ?_
  rintro e w' ⟨full, w1, rfl, ⟨rfl, S', hs', hS', hk'⟩, rfl⟩
  refine ⟨rfl, S', hs'.keep (T := [V.heap.size]) ((Keeps.refl _ _).setCell (.inl (by simp)) _) (fun b hb' => ?_), fun b hb' => ?_, ?_⟩
  · rcases hS' b hb' with h | h
    · intro e; rw [List.mem_singleton.1 e] at h; exact hVS h
    · rw [World.size_alloc] at h; intro e; rw [List.mem_singleton.1 e] at h; omega
  · rcases hS' b hb' with h | h
    · exact .inl h
    · rw [World.size_alloc] at h; exact .inr (by omega)
  · exact ((hk.mono (S' := S) (by simp)).trans hk' (fun _ h => .inl h)).setCell (.inr (Nat.le_refl _)) _
/-- How (*place).takeIn ends. -/
def TkEnd (w : World) (hb : Nat) (S : List Nat) (lim nx lost : Int) (its : List Itm) (x : Itm) (e : Ending) (w' : World) : Prop := e = .returned (.tuple #[]) ∧ _root_.Go.Proofs.YtjgfedmgmfpapaaGreatDoor.Shelf.Step w w' hb S lim (tkNx nx x) (tkLost lim lost its x) (tkIts lim its x)
set_option maxRecDepth 10000 in
set_option maxHeartbeats 2000000 in
theorem takeIn_any (w : World) (pb hb : Nat) (S : List Nat) (lim nx lost : Int) (its : List Itm) (x : Itm) (p : Addr) (hs : _root_.Go.Proofs.YtjgfedmgmfpapaaGreatDoor.Shelf.Shelf w hb S lim nx lost its) (hF : FullIs w p) (hFS : 0 ∉ S) (hl : its.length ≤ 60) (hx : Small x) (hlim : 0 ≤ lim ∧ lim ≤ 10000) (hlo : 0 ≤ lost ∧ lost ≤ 500)
    (hnx : 0 ≤ nx ∧ nx ≤ 1000000000) (htk : 0 ≤ x.token ∧ x.token ≤ 1000000000) (hpS : pb ∉ S)
    (hp : w.cell? ⟨pb, 0, none⟩ = some (.pointer (some ⟨hb, 0, none⟩))) :
    Calls Tryz.prog 117 #[.pointer (some ⟨pb, 0, none⟩), .agg #[.string x.key, .int .i64 x.flags, .string x.data, .int .i64 x.upto, .int .i64 x.token]] w (TkEnd w hb S lim nx lost its x) := by
  obtain ⟨r0, r1, r2, r3, rf, bm', r6, -⟩ := _root_.Go.Proofs.YtjgfedmgmfpapaaGreatDoor.Shelf.shelf_reads hs
  have hwl := (_root_.Go.Proofs.YtjgfedmgmfpapaaGreatDoor.Shelf.shelf_in hs).2
  have HIN := hide (_root_.Go.Proofs.YtjgfedmgmfpapaaGreatDoor.Shelf.shelf_in hs).1
  have HS := hide hs
  have HFU := hide hF
  have hpl := block_lt_of_cell hp
  have hw1 : IntKind.i64.wrap (x.token + 1) = x.token + 1 := by rw [IntKind.wrap_i64]; omega
  clear hs hF r0 r2 r6
  go_enter Tryz.func117, Tryz.ntmps117
  go_wp2_with fail
  have hk0 : Keeps [] w ((w.alloc (.cells #[.pointer (some ⟨pb, 0, none⟩)] 125)).alloc (.cells #[.string x.key, .int .i64 x.flags, .string x.data, .int .i64 x.upto, .int .i64 x.token] 94)) := ((Keeps.refl [] w).alloc _).alloc _
  have hu0 : ((w.alloc (.cells #[.pointer (some ⟨pb, 0, none⟩)] 125)).alloc (.cells #[.string x.key, .int .i64 x.flags, .string x.data, .int .i64 x.upto, .int .i64 x.token] 94)).heap[w.heap.size]? = some (.cells #[.pointer (some ⟨pb, 0, none⟩)] 125 (0, 0)) := ((bel1 _ _).block _ (by simp)).trans (heap_alloc_new _ _)
  have hu1 : ((w.alloc (.cells #[.pointer (some ⟨pb, 0, none⟩)] 125)).alloc (.cells #[.string x.key, .int .i64 x.flags, .string x.data, .int .i64 x.upto, .int .i64 x.token] 94)).heap[w.heap.size + 1]? = some (.cells #[.string x.key, .int .i64 x.flags, .string x.data, .int .i64 x.upto, .int .i64 x.token] 94 (0, 0)) := by
    have := heap_alloc_new (w.alloc (.cells #[.pointer (some ⟨pb, 0, none⟩)] 125)) (.cells #[.string x.key, .int .i64 x.flags, .string x.data, .int .i64 x.upto, .int .i64 x.token] 94)
    rwa [World.size_alloc] at this
  generalize (w.alloc (.cells #[.pointer (some ⟨pb, 0, none⟩)] 125)).alloc (.cells #[.string x.key, .int .i64 x.flags, .string x.data, .int .i64 x.upto, .int .i64 x.token] 94) = U at hk0 hu0 hu1 ⊢
  have q0 : U.cell? ⟨w.heap.size, 0, none⟩ = some (.pointer (some ⟨pb, 0, none⟩)) := by rw [Lib.cell_of_heap hu0]; rfl
  have q4 : U.cell? ⟨w.heap.size + 1, 4, none⟩ = some (.int .i64 x.token) := by rw [Lib.cell_of_heap hu1]; rfl
  have p0 : U.cell? ⟨pb, 0, none⟩ = some (.pointer (some ⟨hb, 0, none⟩)) := (World.cell?_of_block (a := ⟨pb, 0, none⟩) (hk0.block _ hpl (by simp))).trans hp
  obtain ⟨-, n1, -, n3, nf, -⟩ := _root_.Go.Proofs.YtjgfedmgmfpapaaGreatDoor.Shelf.shelf_reads ((unhide HS).keep hk0 (by simp))
  have n1f := nf 1
  have K0 := hide hk0
  have U0 := hide hu0
  have U1 := hide hu1
  have HP0 := hide hp
  clear hk0 hu0 hu1 hp r1 r3 rf nf
  generalize hz0 : w.heap.size = z at q0 q4 U0 U1 ⊢
  have HZ := hide hz0
  clear hz0
  obtain ⟨nn, hnn⟩ : ∃ nn, nn = max nx (x.token + 1) := ⟨_, rfl⟩
  have HNN := hide hnn
  clear hnn
  have HZW : Hid (∀ V, V = (U.setCell ⟨hb, 1, none⟩ (.int .i64 nn)).drew → Keeps [hb] w V ∧ V.heap[z]? = some (.cells #[.pointer (some ⟨pb, 0, none⟩)] 125 (0, 0)) ∧ V.heap[z + 1]? = some (.cells #[.string x.key, .int .i64 x.flags, .string x.data, .int .i64 x.upto, .int .i64 x.token] 94 (0, 0)) ∧ _root_.Go.Proofs.YtjgfedmgmfpapaaGreatDoor.Shelf.Shelf V hb S lim nn lost its) := by
    rintro V rfl
    have hlz : hb < z := by rw [← unhide HZ]; exact hwl
    refine ⟨(((unhide K0).mono (by simp)).setCell (.inl (by simp)) _).drew, ?_, ?_, ?_⟩
    · exact (Below.heap_setCell U ⟨hb, 1, none⟩ (.int .i64 nn) z (by show z ≠ hb; omega)).trans (unhide U0)
    · exact (Below.heap_setCell U ⟨hb, 1, none⟩ (.int .i64 nn) (z + 1) (by show z + 1 ≠ hb; omega)).trans (unhide U1)
    · exact (_root_.Go.Proofs.YtjgfedmgmfpapaaGreatDoor.Shelf.setNext ((unhide HS).keep (unhide K0) (by simp)) nn).keep (T := []) ((Keeps.refl _ _).drew) (by simp)
  go_region
  rw [← unhide HNN]
  obtain ⟨V, hV⟩ : ∃ V, V = (U.setCell ⟨hb, 1, none⟩ (.int .i64 nn)).drew := ⟨_, rfl⟩
  rw [← hV]
  obtain ⟨hkV, hV0, hV1, hsV⟩ := unhide HZW V hV
  have v0 : V.cell? ⟨z, 0, none⟩ = some (.pointer (some ⟨pb, 0, none⟩)) := by rw [Lib.cell_of_heap hV0]; rfl
  have vp : V.cell? ⟨pb, 0, none⟩ = some (.pointer (some ⟨hb, 0, none⟩)) := (World.cell?_of_block (a := ⟨pb, 0, none⟩) (hkV.block _ hpl (by simp; intro e; exact hpS (e ▸ unhide HIN)))).trans (unhide HP0)
  have HG := hide (gaveTk V pb hb z (z + 1) S lim nn lost its x p hsV ((unhide HFU).keep hkV (by simp; intro e; exact hFS (e ▸ unhide HIN))) hFS hl hx hlim hlo vp v0 hV1)
  have KV := hide hkV
  have SV := hide hsV
  have hmf : ∀ (fn : Fn) (first cap : Array Value) (w : World), (Instr.makeFunc fn first cap).run Tryz.prog w = .ok (.func fn first cap) w := fun _ _ _ _ => rfl
  have HV0 := hide v0
  have HVP := hide vp
  clear hkV hV0 hV1 hsV hV HZW q0 q4 p0 n1 n3 n1f vp v0
  go_wp2_with fail
  refine (unhide HG).mono ?_
  rintro e w2 ⟨rfl, hst⟩
  have hsw := step_go ((unhide KV).mono (S' := S) (fun b hb' => by rw [List.mem_singleton.1 hb']; exact unhide HIN)) (fun b hb' => .inl hb') hst
  have vz : w2.cell? ⟨z, 0, none⟩ = some (.pointer (some ⟨pb, 0, none⟩)) := (World.cell?_of_block (a := ⟨z, 0, none⟩) (hst.choose_spec.2.2.block _ (block_lt_of_cell (unhide HV0)) (fun hm => by have := (unhide HS).lt z hm; rw [unhide HZ] at this; omega))).trans (unhide HV0)
  have vp : w2.cell? ⟨pb, 0, none⟩ = some (.pointer (some ⟨hb, 0, none⟩)) := (World.cell?_of_block (a := ⟨pb, 0, none⟩) (hst.choose_spec.2.2.block _ (block_lt_of_cell (unhide HVP)) hpS)).trans (unhide HVP)
  have HE : Hid (tkNx nx x = nn) := hide (by rw [unhide HNN]; rfl)
  by_cases hc : lim < charge x
  · have hd := decide_eq_true hc
    rw [hd]
    rw [if_pos hc] at hsw
    have HE2 : Hid (tkLost lim lost its x = lost + 1) := hide (by unfold tkLost; rw [if_pos hc])
    have HST := hide (step_lost hsw (unhide HIN) (lost + 1))
    obtain ⟨-, -, -, l3, lf, -⟩ := _root_.Go.Proofs.YtjgfedmgmfpapaaGreatDoor.Shelf.shelf_reads hsw.choose_spec.1
    have lf3 := lf 3
    have hw2 : IntKind.i64.wrap (lost + 1) = lost + 1 := by rw [IntKind.wrap_i64]; omega
    clear hst hsw hc hd HG lf
    go_wp2
    go_end0
    exact ⟨rfl, by rw [unhide HE, unhide HE2]; exact unhide HST⟩
  · have hd := decide_eq_false hc
    rw [hd]
    rw [if_neg hc] at hsw
    have HE2 : Hid (tkLost lim lost its x = lost + trimN lim (without its x.key ++ [x])) := hide (by unfold tkLost; rw [if_neg hc])
    have HST := hide hsw
    clear hst hsw hc hd HG
    go_wp2
    go_end0
    exact ⟨rfl, by rw [unhide HE, unhide HE2]; exact unhide HST⟩
end Fleet
end Go.Proofs.YtjgfedmgmfpapaaGreatDoor
/-
  One place of the cluster at work takes a step: which blocks it turns. No Go function is spoken of here but by name.
-/
namespace Go.Proofs.YtjgfedmgmfpapaaGreatDoor
namespace Fleet
open Go.RowKit Base Store Items OwnR Keep Clus Marks
set_option linter.unusedVariables false

theorem FleetAt.stepS {w w' : World} {M X : Nat} {f : Fl} (hf : FleetAt w M X f) {k : Nat} (hk : k < f.ps.length) {lim nx lost : Int} {its : List Itm} (hM : M ≤ w.heap.size)
    {S' : List Nat} (hsh : _root_.Go.Proofs.YtjgfedmgmfpapaaGreatDoor.Shelf.Shelf w' (f.ps.getD k zeroP).hb S' lim nx lost its) (hS' : ∀ b ∈ S', b ∈ (f.ps.getD k zeroP).S ∨ w.heap.size ≤ b) (hke : Keeps (f.ps.getD k zeroP).S w w') :
    FleetAt w' M X { f with ps := f.ps.set k (upd (f.ps.getD k zeroP) S' lim nx lost its) } ∧ Kp M X w w' := by
  have hpm := getD_mem hk
  have hpe := getD_at hk
  have hp := hf.pl _ hpm
  have hlo := hf.lo _ hpm
  have hfar := hf.far _ hpm
  have hlt := hp.lt
  generalize hpp : f.ps.getD k zeroP = p at *
  have hSM : ∀ b ∈ p.S, M ≤ b := fun b hb => hlo b (List.mem_cons_of_mem _ hb)
  have hkp : Kp M X w w' := Kp.of_keeps hke hM hSM
  have hnb : ∀ b ∈ bks (upd p S' lim nx lost its), b ∈ bks p ∨ w.heap.size ≤ b := by
    intro b hb
    rcases List.mem_cons.1 hb with rfl | hb
    · exact .inl List.mem_cons_self
    · rcases hS' b hb with h | h
      · exact .inl (List.mem_cons_of_mem _ h)
      · exact .inr h
  have hrv : rowV { f with ps := f.ps.set k (upd p S' lim nx lost its) } = rowV f := by unfold rowV; simp
  have hptr : (f.ps.set k (upd p S' lim nx lost its)).map ptr = f.ps.map ptr := by
    rw [List.map_set]
    have : ptr (upd p S' lim nx lost its) = (f.ps.map ptr)[k]'(by simpa using hk) := by
      rw [List.getElem_map, ← hpe]; rfl
    rw [this, List.set_getElem_self]
  have hoth : ∀ i (hi : i < f.ps.length), i ≠ k → PcAt w' f.ps[i] := fun i hi hne => (hf.pl _ (List.getElem_mem _)).keep hke (fun b hb hm => apart_at hf.apart hi hk hne b hb (by rw [← hpe]; exact List.mem_cons_of_mem _ hm))
  have hpbS : p.pb ∉ S' := fun hm => by
    rcases hS' _ hm with h | h
    · exact hp.out h
    · have := hlt p.pb List.mem_cons_self; omega
  refine ⟨⟨?_, ?_, ?_, ?_, ?_, ?_, hf.xm⟩, hkp⟩
  · have h1 : FB w' X f := hf.box.of_block (hke.block X hf.box.lt (fun hm => by have := hSM X hm; have := hf.xm; omega))
    unfold FB at h1 ⊢
    rw [hrv]; exact h1
  · rw [hrv]
    show w'.ownsRow M _ 1 (rowV f) (f.ps.set k _).length ((f.ps.set k _).map ptr)
    rw [hptr, List.length_set]
    exact own_blocks hf.row (fun g hg => hke.block g (own_lt hf.row hg) (fun hm => hfar g (List.mem_cons_of_mem _ hm) hg))
  · intro q hq
    rcases mem_set hq with rfl | ⟨i, hi, hne, rfl⟩
    · refine ⟨(hke.block _ (hlt _ List.mem_cons_self) hp.out).trans hp.box, hsh, hpbS⟩
    · exact hoth i hi hne
  · intro q hq b hb
    rcases mem_set hq with rfl | ⟨i, hi, hne, rfl⟩
    · rcases hnb b hb with h | h
      · exact hlo b h
      · omega
    · exact hf.lo _ (List.getElem_mem _) b hb
  · rw [List.pairwise_iff_getElem]
    intro i j hi hj hij b hb hb2
    have hi' : i < f.ps.length := by simpa using hi
    have hj' : j < f.ps.length := by simpa using hj
    have hb1 : b ∈ bks (if k = i then upd p S' lim nx lost its else f.ps[i]) := by rw [List.getElem_set] at hb; exact hb
    have hb3 : b ∈ bks (if k = j then upd p S' lim nx lost its else f.ps[j]) := by rw [List.getElem_set] at hb2; exact hb2
    have hold : ∀ m (hm : m < f.ps.length), b ∈ bks f.ps[m] → b < w.heap.size := fun m hm h => (hf.pl _ (List.getElem_mem _)).lt b h
    by_cases ei : k = i
    · rw [if_pos ei] at hb1
      rw [if_neg (by omega)] at hb3
      rcases hnb b hb1 with h | h
      · exact apart_at hf.apart hk hj' (by omega) b (by rw [← hpe]; exact h) hb3
      · have := hold j hj' hb3; omega
    · rw [if_neg ei] at hb1
      by_cases ej : k = j
      · rw [if_pos ej] at hb3
        rcases hnb b hb3 with h | h
        · exact apart_at hf.apart hi' hk (by omega) b hb1 (by rw [← hpe]; exact h)
        · have := hold i hi' hb1; omega
      · rw [if_neg ej] at hb3
        exact apart_at hf.apart hi' hj' (by omega) b hb1 hb3
  · intro q hq b hb
    rw [hrv]
    rcases mem_set hq with rfl | ⟨i, hi, hne, rfl⟩
    · intro e
      rcases hnb b hb with h | h
      · exact hfar b h e
      · have := own_lt hf.row e; omega
    · exact hf.far _ (List.getElem_mem _) b hb

/-- What lies in no place's blocks stays. -/
def Fr (ps : List Pc) (u u' : World) : Prop := ∀ b, b < u.heap.size → (∀ p ∈ ps, b ∉ bks p) → u'.heap[b]? = u.heap[b]?
/-- The places' blocks were theirs, or are new. -/
def Nb (ps qs : List Pc) (u : World) : Prop := ∀ q ∈ qs, ∀ b ∈ bks q, (∃ p ∈ ps, b ∈ bks p) ∨ u.heap.size ≤ b
theorem Fr.below {ps : List Pc} {u u' : World} (h : Below u.heap.size u u') : Fr ps u u' := fun b hb _ => h.block b hb
theorem Nb.refl (ps : List Pc) (u : World) : Nb ps ps u := fun q hq b hb => .inl ⟨q, hq, hb⟩
theorem Fr.step {ps : List Pc} {k : Nat} (hk : k < ps.length) {u u' : World} (hke : Keeps (ps.getD k zeroP).S u u') : Fr ps u u' := fun b hb hn => hke.block b hb (fun hm => hn _ (getD_mem hk) (List.mem_cons_of_mem _ hm))
theorem Nb.step {ps : List Pc} {k : Nat} (hk : k < ps.length) {u : World} {S' : List Nat} {lim nx lost : Int} {its : List Itm} (hS' : ∀ b ∈ S', b ∈ (ps.getD k zeroP).S ∨ u.heap.size ≤ b) : Nb ps (ps.set k (upd (ps.getD k zeroP) S' lim nx lost its)) u := by
  intro q hq b hb
  rcases mem_set hq with rfl | ⟨i, hi, _, rfl⟩
  · rcases List.mem_cons.1 hb with rfl | hb
    · exact .inl ⟨_, getD_mem hk, List.mem_cons_self⟩
    · rcases hS' b hb with h | h
      · exact .inl ⟨_, getD_mem hk, List.mem_cons_of_mem _ h⟩
      · exact .inr h
  · exact .inl ⟨_, List.getElem_mem _, hb⟩
theorem Nb.trans {ps qs rs : List Pc} {u v : World} (h1 : Nb ps qs u) (h2 : Nb qs rs v) (hz : u.heap.size ≤ v.heap.size) : Nb ps rs u := by
  intro r hr b hb
  rcases h2 r hr b hb with ⟨q, hq, hb2⟩ | h
  · exact h1 q hq b hb2
  · exact .inr (by omega)
theorem Fr.trans {ps qs : List Pc} {u v x : World} (h1 : Fr ps u v) (hn : Nb ps qs u) (h2 : Fr qs v x) (hz : u.heap.size ≤ v.heap.size) : Fr ps u x := by
  intro b hb hnb
  refine (h2 b (by omega) (fun q hq hm => ?_)).trans (h1 b hb hnb)
  rcases hn q hq b hm with ⟨p, hp, hb2⟩ | h
  · exact hnb p hp hb2
  · omega
end Fleet
end Go.Proofs.YtjgfedmgmfpapaaGreatDoor
