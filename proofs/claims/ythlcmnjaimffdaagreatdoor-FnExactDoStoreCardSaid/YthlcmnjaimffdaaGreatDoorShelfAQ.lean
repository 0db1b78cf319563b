/-
  The program's count, and answerTo: what each command leaves of the shelf, and its answer.
-/
import Derived.Test.YthlcmnjaimffdaaGreatDoorShelfVW
import Derived.Test.YthlcmnjaimffdaaGreatDoorKinds
import Derived.Deep.RegionWith
import Derived.Outline
import Derived.Test.YthlcmnjaimffdaaGreatDoorShelfTG
import Derived.Test.YthlcmnjaimffdaaGreatDoorGoodCmds
namespace Go.Proofs.YthlcmnjaimffdaaGreatDoor
namespace Shelf
open Go.RowKit Base Items Keep Own Chain Store GoodKey NumText
set_option linter.unusedVariables false

def countX (lim nx : Int) (its : List Itm) (nm : List UInt8) (n : Int) (od : Itm) : Out := match Count.countB od.data.data.toList n (nm == [100, 101, 99, 114]) with
  | none => ⟨its, nx, 0, badT⟩
  | some t => putO lim nx its { od with data := t } (t ++ endS)
def countO (lim nx : Int) (its : List Itm) (nm : List UInt8) (key : ByteArray) (n : Int) : Out := match atN its key with
  | none => ⟨its, nx, 0, notFoundT⟩
  | some k => countX lim nx its nm n (its.getD k zero)
def touchO (nx : Int) (its : List Itm) (now : Int) (key : ByteArray) (x : Int) : Out := match atN its key with
  | none => ⟨its, nx, 0, notFoundT⟩
  | some k => ⟨its.eraseIdx k ++ [{ its.getD k zero with upto := untilR now x }], nx, 0, touchedT⟩
def removeO (nx : Int) (its : List Itm) (key : ByteArray) : Out := ⟨without its key, nx, 0, if (atN its key).isSome then deletedT else notFoundT⟩
def plainO (nx : Int) (its : List Itm) (nm : List UInt8) : Out :=
  if nm = [102, 108, 117, 115, 104, 95, 97, 108, 108] then ⟨[], nx, 0, okT⟩ else if nm = [118, 101, 114, 115, 105, 111, 110] then ⟨its, nx, 0, versionT⟩ else ⟨its, nx, 0, ByteArray.empty⟩
def tellO (nx : Int) (its : List Itm) (nm : List UInt8) (ks : List ByteArray) : Out :=
  ⟨(tellK (nm == [103, 101, 116, 115]) its ks).1, nx, 0, (tellK (nm == [103, 101, 116, 115]) its ks).2 ++ ⟨#[69, 78, 68, 13, 10]⟩⟩
/-- What a command leaves. -/
def ansO (lim nx : Int) (its : List Itm) (now : Int) (nm : List UInt8) (ks : List ByteArray) (f x n : Int) (dt : ByteArray) : Out :=
  if Kind.kindN nm = 1 then tellO nx its nm ks else
  if Kind.kindN nm = 2 then setO lim nx its now nm (ks.getD 0 ByteArray.empty) f x n dt else
  if Kind.kindN nm = 3 then setO lim nx its now nm (ks.getD 0 ByteArray.empty) f x n dt else
  if Kind.kindN nm = 4 then countO lim nx its nm (ks.getD 0 ByteArray.empty) n else
  if Kind.kindN nm = 5 then touchO nx its now (ks.getD 0 ByteArray.empty) x else
  if Kind.kindN nm = 6 then removeO nx its (ks.getD 0 ByteArray.empty) else
  plainO nx its nm

theorem Sh.keep {G : List (Nat × Obj)} {w0 w w' : World} {hb : Nat} {lim nx lost : Int} {its : List Itm} (h : Sh G w0 w hb lim nx lost its) (hk : Keeps [] w w') : Sh G w0 w' hb lim nx lost its := by
  obtain ⟨S, hs, hS0, hb0⟩ := h
  exact ⟨S, hs.keep hk (by simp), hS0, hb0.1.trans (hk.below (by simp) hb0.1.size), fun g hg => (hk.block _ (lt_of_get (hb0.2 g hg)) (by simp)).trans (hb0.2 g hg)⟩
theorem count_size {l : List UInt8} {m : Int} {d : Bool} {t : ByteArray} (h : Count.countB l m d = some t) : t.size ≤ 18 := by
  unfold Count.countB at h
  repeat' split at h
  all_goals first | (simp at h; done) | (rw [← Option.some.inj h]; omega)

set_option maxRecDepth 10000 in
set_option maxHeartbeats 4000000 in
theorem count_shelf (G : List (Nat × Obj)) (w0 w : World) (hb : Nat) (lim nx lost : Int) (its : List Itm) (nm : ByteArray) (kb ko kc nk : Nat) (key : ByteArray) (f x n : Int) (dt : ByteArray) (q : Bool) (p : Addr) (hs : Sh G w0 w hb lim nx lost its) (hF : FullIs w0 p) (hv : Count.Vars w0)
    (hkb : kb < w0.heap.size) (hkc : w0.cell? ⟨kb, ko, none⟩ = some (.string key)) (hk0 : 0 < nk) (hkey : key.size ≤ 30) (hl : its.length ≤ 60) (hlim : 0 ≤ lim ∧ lim ≤ 10000) (hnx : 1 ≤ nx ∧ nx ≤ 1000000000) (hlo : 0 ≤ lost ∧ lost ≤ 500) (hn : (Lit.int .i64 n).wf = true) :
    Calls Tryz.prog 75 #[.pointer (some ⟨hb, 0, none⟩), .agg #[.string nm, .slice (some ⟨kb, ko, none⟩) nk kc, .int .i64 f, .int .i64 x, .int .i64 n, .string dt, .bool q]] w fun e w' =>
      AnsEnd p (countO lim nx its nm.toList key n).ans e ∧ Sh G w0 w' hb lim (countO lim nx its nm.toList key n).nx (lost + (countO lim nx its nm.toList key n).lost) (countO lim nx its nm.toList key n).its := by
  have HS := hide hs
  have HV := hide hv
  have hck := (hs.bel.cell (p := ⟨kb, ko, none⟩) hkb).trans hkc
  have hkbw : kb < w.heap.size := Nat.lt_of_lt_of_le hkb hs.bel.size
  have hkm : key.size ≤ maxLen := by unfold maxLen; omega
  have HFD := hide (fun w1 (h : Sh G w0 w1 hb lim nx lost its) => sh_find h key hkm)
  have hco : Hid (countO lim nx its nm.toList key n = match atN its key with
    | none => ⟨its, nx, 0, notFoundT⟩
    | some k => countX lim nx its nm.toList n (its.getD k zero)) := rfl
  generalize countO lim nx its nm.toList key n = O at hco ⊢
  have hkeys := hs.keys.2
  clear hs hv hkc
  cases e : atN its key with
  | none =>
    rw [e] at hco HFD
    have hE : O = ⟨its, nx, 0, notFoundT⟩ := unhide hco
    subst hE
    clear hco e hkeys
    generalize oldO its key = od at HFD
    go_enter Tryz.func75, Tryz.ntmps75
    go_wp2_with fail
    refine (unhide HFD _ ((unhide HS).below (bel1 w _))).mono ?_
    rintro e w1 ⟨rfl, hb1⟩
    have HB1 := hide ((bel1 w _).trans (hb1.mono (by simp)))
    clear hb1
    unfold itemV
    go_wp2
    go_ret
    exact ⟨.inl rfl, by simpa using (unhide HS).below ((unhide HB1).alloc (unhide HB1).size _)⟩
  | some k =>
    have hod : oldO its key = its.getD k zero := by unfold oldO; rw [e]
    rw [e] at hco HFD
    rw [hod] at HFD
    have hsm := small_getD hkeys k (at_split e).1
    have hco2 : Hid (O = countX lim nx its nm.toList n (its.getD k zero)) := unhide hco
    clear e hod hkeys hco
    generalize its.getD k zero = od at HFD hco2 hsm
    have hcx : Hid (countX lim nx its nm.toList n od = match Count.countB od.data.data.toList n (nm.toList == [100, 101, 99, 114]) with
      | none => ⟨its, nx, 0, badT⟩
      | some t => putO lim nx its { od with data := t } (t ++ endS)) := rfl
    have HCT := hide (fun w1 hv => Count.count_any od.data n (nm.toList == [100, 101, 99, 114]) w1 hsm.2 hn hv)
    cases ec : Count.countB od.data.data.toList n (nm.toList == [100, 101, 99, 114]) with
    | none =>
      rw [ec] at hcx HCT
      have hE : O = ⟨its, nx, 0, badT⟩ := (unhide hco2).trans (unhide hcx)
      subst hE
      clear hco2 hcx ec
      go_enter Tryz.func75, Tryz.ntmps75
      go_wp2_with fail
      refine (unhide HFD _ ((unhide HS).below (bel1 w _))).mono ?_
      rintro e w1 ⟨rfl, hb1⟩
      obtain ⟨hc1, hf1⟩ := bcell hb1 (Nat.le_refl _)
      have hz1 : w.heap.size < w1.heap.size := by have := hb1.size; simp at this; omega
      have HB1 := hide ((bel1 w _).trans (hb1.mono (by simp)))
      have HS1 := hide ((unhide HS).below (unhide HB1))
      clear hb1
      unfold itemV
      go_wp2_with fail
      refine (unhide HCT _ ((unhide HV).below ((unhide HS1).below (bel1 w1 _)).bel)).mono ?_
      rintro e w2 ⟨rfl, hb2⟩
      obtain ⟨hc2, hf2⟩ := bcell hb2 (Nat.le_refl _)
      have hz2 : w1.heap.size < w2.heap.size := by have := hb2.size; simp at this; omega
      have HB2 := hide (((unhide HB1).alloc (unhide HB1).size _).trans (hb2.mono (by have := (unhide HB1).size; simp; omega)))
      have HS2 := hide (((unhide HS1).below (bel1 w1 _)).below hb2)
      have HKW := hide (Keeps.of_below (S := []) ((bel1 w1 _).trans (hb2.mono (by simp))) (fun _ h1 _ => h1))
      have HX2 := hide ((hb2.block w1.heap.size (by simp)).trans (heap_alloc_new w1 (.cells #[.string od.key, .int .i64 od.flags, .string od.data, .int .i64 od.upto, .int .i64 od.token] 71)))
      clear hb2
      unfold Count.countV
      go_wp2_with fail
      refine (fault3 _).mono ?_
      rintro e w3 ⟨rfl, hw3⟩
      subst hw3
      go_wp2
      go_ret
      exact ⟨.inl rfl, by simpa using unhide HS2⟩
    | some t =>
      rw [ec] at hcx HCT
      have hts := count_size ec
      have hE : O = putO lim nx its { od with data := t } (t ++ endS) := (unhide hco2).trans (unhide hcx)
      subst hE
      have HKP := hide (fun w1 (h : Sh G w0 w1 hb lim nx lost its) => sh_keep h hF { od with data := t } (t ++ endS) hl ⟨hsm.1, by show t.size ≤ 1048576; omega⟩ hlim hnx hlo)
      clear hco2 hcx ec
      have m1 : ¬ 9223372036854775807 < t.size + 2 := by omega
      go_enter Tryz.func75, Tryz.ntmps75
      go_wp2_with fail
      refine (unhide HFD _ ((unhide HS).below (bel1 w _))).mono ?_
      rintro e w1 ⟨rfl, hb1⟩
      obtain ⟨hc1, hf1⟩ := bcell hb1 (Nat.le_refl _)
      have hz1 : w.heap.size < w1.heap.size := by have := hb1.size; simp at this; omega
      have HB1 := hide ((bel1 w _).trans (hb1.mono (by simp)))
      have HS1 := hide ((unhide HS).below (unhide HB1))
      clear hb1
      unfold itemV
      go_wp2_with fail
      refine (unhide HCT _ ((unhide HV).below ((unhide HS1).below (bel1 w1 _)).bel)).mono ?_
      rintro e w2 ⟨rfl, hb2⟩
      obtain ⟨hc2, hf2⟩ := bcell hb2 (Nat.le_refl _)
      have hz2 : w1.heap.size < w2.heap.size := by have := hb2.size; simp at this; omega
      have HB2 := hide (((unhide HB1).alloc (unhide HB1).size _).trans (hb2.mono (by have := (unhide HB1).size; simp; omega)))
      have HS2 := hide (((unhide HS1).below (bel1 w1 _)).below hb2)
      have HKW := hide (Keeps.of_below (S := []) ((bel1 w1 _).trans (hb2.mono (by simp))) (fun _ h1 _ => h1))
      have HX2 := hide ((hb2.block w1.heap.size (by simp)).trans (heap_alloc_new w1 (.cells #[.string od.key, .int .i64 od.flags, .string od.data, .int .i64 od.upto, .int .i64 od.token] 71)))
      clear hb2
      unfold Count.countV
      go_wp2_with fail
      refine (unhide HKP _ ((unhide HS1).keep ((unhide HKW).setCell (p := ⟨w1.heap.size, 2, none⟩) (.inr (Nat.le_refl _)) _))).mono ?_
      rintro e w3 ⟨he, hs3⟩
      have HS3 := hide hs3
      clear hs3
      rcases he with rfl | ⟨hfull, rfl⟩
      · go_wp2
        go_ret
        exact ⟨.inl rfl, unhide HS3⟩
      · have HFL := hide hfull
        clear hfull
        go_wp2
        exact ⟨rfl, .inr ⟨unhide HFL, rfl⟩, unhide HS3⟩

theorem sh_remove {G : List (Nat × Obj)} {w0 w : World} {hb : Nat} {lim nx lost : Int} {its : List Itm} (hs : Sh G w0 w hb lim nx lost its) (key : ByteArray) (hl : its.length ≤ 60) (hkey : key.size ≤ maxLen) :
    Calls Tryz.prog 78 #[.pointer (some ⟨hb, 0, none⟩), .string key] w fun e w' => e = .returned (.string (removeO nx its key).ans) ∧ Sh G w0 w' hb lim nx lost (removeO nx its key).its := by
  obtain ⟨S, hsh, hS0, hb0⟩ := hs
  exact (remove_shelf w hb S lim nx lost its key hsh (by omega) hkey).mono fun e w' ⟨he, h⟩ => ⟨he, sh_step hS0 hb0 h⟩
theorem sh_touch {G : List (Nat × Obj)} {w0 w : World} {hb : Nat} {lim nx lost : Int} {its : List Itm} (hs : Sh G w0 w hb lim nx lost its) (now : Int) (key : ByteArray) (x : Int) (hl : its.length ≤ 60) (hkey : key.size ≤ maxLen) :
    Calls Tryz.prog 76 #[.pointer (some ⟨hb, 0, none⟩), .string key, .int .i64 (untilR now x)] w fun e w' => e = .returned (.string (touchO nx its now key x).ans) ∧ Sh G w0 w' hb lim nx lost (touchO nx its now key x).its := by
  obtain ⟨S, hsh, hS0, hb0⟩ := hs
  refine (touch_shelf w hb S lim nx lost its key (untilR now x) hsh (by omega) hkey).mono ?_
  intro e w' h
  unfold TouchEnd at h
  unfold touchO
  cases ek : atN its key with
  | none => rw [ek] at h; exact ⟨h.1, sh_step hS0 hb0 h.2⟩
  | some k => rw [ek] at h; exact ⟨h.1, sh_step hS0 hb0 h.2⟩
theorem toList_eq {a b : ByteArray} (h : a.toList = b.toList) : a = b := by
  apply Go.WideShapes.bytes_inj
  rw [← Lib.toList_data, ← Lib.toList_data]; exact h
theorem sh_plain {G : List (Nat × Obj)} {w0 w : World} {hb : Nat} {lim nx lost : Int} {its : List Itm} (hs : Sh G w0 w hb lim nx lost its) (nm : ByteArray) :
    Calls Tryz.prog 79 #[.pointer (some ⟨hb, 0, none⟩), .string nm] w fun e w' => e = .returned (.string (plainO nx its nm.toList).ans) ∧ Sh G w0 w' hb lim nx lost (plainO nx its nm.toList).its := by
  obtain ⟨S, hsh, hS0, hb0⟩ := hs
  refine (plain_shelf w hb S lim nx lost its nm hsh).mono ?_
  intro e w' h
  unfold plainO
  by_cases h1 : nm.toList = [102, 108, 117, 115, 104, 95, 97, 108, 108]
  · rw [if_pos h1]
    have := h.1 (toList_eq (by rw [h1, Lib.toList_data]; rfl))
    exact ⟨this.1, sh_step hS0 hb0 this.2⟩
  · rw [if_neg h1]
    have g1 : nm ≠ flushN := fun e => h1 (by rw [e, Lib.toList_data]; rfl)
    by_cases h2 : nm.toList = [118, 101, 114, 115, 105, 111, 110]
    · rw [if_pos h2]
      have := h.2.1 (toList_eq (by rw [h2, Lib.toList_data]; rfl))
      exact ⟨this.1, sh_step hS0 hb0 this.2⟩
    · rw [if_neg h2]
      have := h.2.2 g1 (fun e => h2 (by rw [e, Lib.toList_data]; rfl))
      exact ⟨this.1, sh_step hS0 hb0 this.2⟩
end Shelf
end Go.Proofs.YthlcmnjaimffdaaGreatDoor
/-
  What DoStore leaves, as a plain function; and what a good store and a good command give. No Go function is spoken of here.
-/
namespace Go.Proofs.YthlcmnjaimffdaaGreatDoor
namespace Shelf
open Go.RowKit Base Items Store GoodKey NumText
set_option linter.unusedVariables false

structure Done where
  lim : Int
  nx : Int
  its : List Itm
  ans : ByteArray
  lost : Nat
  ok : Bool
def noDone : Done := ⟨0, 0, [], ⟨#[]⟩, 0, false⟩
def yesDone (lim : Int) (q : Bool) (o : Out) : Done := ⟨lim, o.nx, o.its, if q = true then ⟨#[]⟩ else o.ans, o.lost, true⟩
def doR (lim nx : Int) (its : List Itm) (now : Int) (nm : List UInt8) (ks : List ByteArray) (f x n : Int) (dt : ByteArray) (q : Bool) : Done :=
  if gsB lim nx its = true then if inB now 0 1000000000 = true then if GoodCmd.gcB (Kind.kindN nm) ks f x n dt q = true then
    yesDone lim q (ansO lim nx (keepB its now) now nm ks f x n dt) else noDone else noDone else noDone

theorem inB_iff {n lo hi : Int} (h : inB n lo hi = true) : lo ≤ n ∧ n ≤ hi := by
  unfold inB at h
  simpa only [Bool.and_eq_true, decide_eq_true_eq] using h
theorem num_bd {b : Bool} {n : Int} (h : GoodCmd.numB b n = true) : 0 ≤ n ∧ n ≤ 1000000000 := by
  unfold GoodCmd.numB at h
  simp only [Bool.or_eq_true, Bool.and_eq_true, decide_eq_true_eq] at h
  omega
theorem dat_bd {b : Bool} {dt : ByteArray} (h : GoodCmd.datB b dt = true) : dt.size ≤ 100 := by
  unfold GoodCmd.datB at h
  simp only [Bool.or_eq_true, Bool.and_eq_true, decide_eq_true_eq] at h
  omega
/-- What a good command gives. -/
def CmdOk (K : Int) (ks : List ByteArray) (f x n : Int) (dt : ByteArray) : Prop :=
  ks.length ≤ 10 ∧ (∀ s ∈ ks, s.size ≤ 30) ∧ (2 ≤ K ∧ K ≤ 6 → 0 < ks.length) ∧ dt.size ≤ 100 ∧ (0 ≤ f ∧ f ≤ 1000000000) ∧ (0 ≤ x ∧ x ≤ 1000000000) ∧ (0 ≤ n ∧ n ≤ 1000000000)
theorem form_ok {K lo hi : Int} {bf bx bd bn bq : Bool} {ks : List ByteArray} {f x n : Int} {dt : ByteArray} {q : Bool} (h : GoodCmd.formB lo hi bf bx bd bn bq ks f x n dt q = true) (hhi : hi ≤ 10) (hlo : 2 ≤ K ∧ K ≤ 6 → lo = 1) : CmdOk K ks f x n dt := by
  unfold GoodCmd.formB at h
  simp only [Bool.and_eq_true] at h
  obtain ⟨⟨⟨⟨⟨⟨h1, h2⟩, h3⟩, h4⟩, h5⟩, h6⟩, _⟩ := h
  have h1 := inB_iff h1
  refine ⟨by omega, ?_, fun hk => by have := hlo hk; omega, dat_bd h6, num_bd h3, num_bd h4, num_bd h5⟩
  intro s hs
  have := List.all_eq_true.1 h2 s hs
  unfold GoodCmd.gkb gk at this
  simp only [Bool.and_eq_true] at this
  have := inB_iff this.1
  simp at this
  omega
theorem cmd_ok {K : Int} {ks : List ByteArray} {f x n : Int} {dt : ByteArray} {q : Bool} (h : GoodCmd.gcB K ks f x n dt q = true) : CmdOk K ks f x n dt := by
  unfold GoodCmd.gcB at h
  repeat' split at h
  all_goals first | (exact form_ok h (by omega) (by omega)) | (simp at h; done)

theorem okB_okx {nx : Int} {x : Itm} (h : itemB x = true) : Okx x := by
  unfold itemB gk at h
  simp only [Bool.and_eq_true, decide_eq_true_eq] at h
  obtain ⟨⟨⟨⟨⟨h1, _⟩, h2⟩, h3⟩, _⟩, h5⟩ := h
  have h1 := inB_iff h1
  have h2 := inB_iff h2
  have h5 := inB_iff h5
  refine ⟨?_, by omega, h2, by omega⟩
  simp at h1
  omega
/-- What a good store gives, as to its items: each is good, of an elder token; keys and tokens are apart. -/
theorem store_ok {lim nx : Int} {its : List Itm} (h : gsB lim nx its = true) : (0 ≤ lim ∧ lim ≤ 10000) ∧ (1 ≤ nx ∧ nx ≤ 1000000000) ∧ its.length ≤ 60 ∧ (∀ x ∈ its, Okx x) := by
  have hk := good_keys h
  unfold gsB at h
  simp only [Bool.and_eq_true] at h
  obtain ⟨⟨⟨⟨h1, h2⟩, _⟩, h4⟩, _⟩ := h
  refine ⟨inB_iff h1, inB_iff h2, hk.1, ?_⟩
  intro x hx
  obtain ⟨i, hi, rfl⟩ := List.getElem_of_mem hx
  unfold goodTo at h4
  rw [List.all_eq_true] at h4
  have := h4 i (by simpa using hi)
  unfold stepB at this
  simp only [Bool.and_eq_true, List.getD_eq_getElem?_getD, List.getElem?_eq_getElem hi, Option.getD_some] at this
  exact okB_okx (nx := nx) this.1.1
theorem keep_ok {its : List Itm} (now : Int) (h : its.length ≤ 60 ∧ ∀ x ∈ its, Okx x) : TellOk (keepB its now, ByteArray.empty) 0 := by
  refine ⟨Nat.le_trans (List.length_filter_le _ _) h.1, fun x hx => h.2 x (List.mem_filter.1 hx).1, ?_⟩
  show ByteArray.empty.size ≤ 0 * 250
  decide

/-- How many items there are behind a command. -/
theorem putO_len {lim nx : Int} {its : List Itm} {x : Itm} {ans : ByteArray} : (putO lim nx its x ans).its.length ≤ its.length + 1 ∧ (putO lim nx its x ans).lost ≤ its.length + 1 := by
  unfold putO putR
  have h1 := without_len its x.key
  have h2 := trimN_le lim (without its x.key ++ [{ x with token := nx }])
  simp only [List.length_append, List.length_cons, List.length_nil] at h2
  split
  · exact ⟨Nat.le_succ _, Nat.zero_le _⟩
  · rename_i r n h
    split at h
    · simp at h
    · simp only [Option.some.injEq, Prod.mk.injEq] at h
      obtain ⟨rfl, rfl⟩ := h
      dsimp only
      refine ⟨?_, by omega⟩
      simp only [List.length_drop, List.length_append, List.length_cons, List.length_nil]
      omega
theorem tellK_ok {token : Bool} {its : List Itm} (h : TellOk (its, ByteArray.empty) 0) (ks : List ByteArray) : ∀ k, k ≤ ks.length → TellOk (tellK token its (ks.take k)) k
  | 0, _ => by simpa [tellK] using h
  | k + 1, hk => by
    rw [tellK_step token its ks k (by omega)]
    exact tell_ok (tellK_ok h ks k (by omega)) _
theorem ans_len {lim nx : Int} {its : List Itm} {now : Int} {nm : List UInt8} {ks : List ByteArray} {f x n : Int} {dt : ByteArray} (h : TellOk (its, ByteArray.empty) 0) : (ansO lim nx its now nm ks f x n dt).its.length ≤ 61 ∧ (ansO lim nx its now nm ks f x n dt).lost ≤ 61 := by
  have hl : its.length ≤ 60 := h.1
  have hset : ∀ key, (setO lim nx its now nm key f x n dt).its.length ≤ 61 ∧ (setO lim nx its now nm key f x n dt).lost ≤ 61 := by
    intro key
    unfold setO
    split
    · split
      · have := @putO_len lim nx its (itemR now nm key f x dt (oldO its key)) storedT
        omega
      · exact ⟨by show its.length ≤ 61; omega, Nat.zero_le _⟩
    · exact ⟨by show its.length ≤ 61; omega, Nat.zero_le _⟩
  unfold ansO
  split
  · have := (tellK_ok (token := nm == [103, 101, 116, 115]) h ks ks.length (Nat.le_refl _)).1
    rw [List.take_length] at this
    exact ⟨by show (tellK (nm == [103, 101, 116, 115]) its ks).1.length ≤ 61; omega, Nat.zero_le _⟩
  split
  · exact hset _
  split
  · exact hset _
  split
  · unfold countO
    split
    · exact ⟨by show its.length ≤ 61; omega, Nat.zero_le _⟩
    · unfold countX
      split
      · exact ⟨by show its.length ≤ 61; omega, Nat.zero_le _⟩
      · exact ⟨Nat.le_trans putO_len.1 (by omega), Nat.le_trans putO_len.2 (by omega)⟩
  split
  · unfold touchO
    split
    · exact ⟨by show its.length ≤ 61; omega, Nat.zero_le _⟩
    · rename_i k _
      refine ⟨?_, Nat.zero_le _⟩
      show (its.eraseIdx k ++ [{ its.getD k zero with upto := untilR now x }]).length ≤ 61
      have := List.length_eraseIdx_le its k
      simp only [List.length_append, List.length_cons, List.length_nil]
      omega
  split
  · refine ⟨?_, Nat.zero_le _⟩
    show (without its (ks.getD 0 ByteArray.empty)).length ≤ 61
    have := without_len its (ks.getD 0 ByteArray.empty)
    omega
  · unfold plainO
    split
    · exact ⟨by show ([] : List Itm).length ≤ 61; decide, Nat.zero_le _⟩
    · split
      · exact ⟨by show its.length ≤ 61; omega, Nat.zero_le _⟩
      · exact ⟨by show its.length ≤ 61; omega, Nat.zero_le _⟩
/-- The ending of DoStore, and what it leaves in memory. -/
def DoEnd (T : Done) (w : World) (e : Ending) (w' : World) : Prop :=
  ∃ a cap r, e = .returned (.tuple #[.agg #[.int .i64 T.lim, .int .i64 T.nx, .slice a T.its.length cap], .string T.ans, .int .i64 T.lost, .bool T.ok]) ∧ Marks.Ours w' a T.its.length (icell T.its) r ∧ (∀ g, r = some g → w.heap.size ≤ g) ∧ Below w.heap.size w w'
end Shelf
end Go.Proofs.YthlcmnjaimffdaaGreatDoor
