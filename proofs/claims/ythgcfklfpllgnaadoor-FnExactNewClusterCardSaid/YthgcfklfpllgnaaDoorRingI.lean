/-
  The program's pointsOf: the points of a node, in a row of its own.
-/
import Derived.Test.YthgcfklfpllgnaaDoorZ6
import Derived.Test.YthgcfklfpllgnaaDoorZ18
import Derived.Test.YthgcfklfpllgnaaDoorZ13
import Derived.Test.YthgcfklfpllgnaaDoorItoaC
import Derived.Lib.QuietBelow
import Derived.BigQuiet
import Derived.Outline
namespace Go.Proofs.YthgcfklfpllgnaaDoor
namespace Ring
open Go.RowKit Base Points NumText
set_option linter.unusedVariables false

/-- What the library's variables hold. -/
def Vars (w : World) : Prop := Lib.TabIs Tryd.prog w "internal/strconv.uint64pow10" .u64 Lib.pow10Tab
theorem var_below {P : Program} {w w' : World} {name : String} {cs : Array Value} (h : w.var? P name = some cs) (hb : Below w.heap.size w w') : w'.var? P name = some cs := by
  unfold World.var? at *
  cases e : P.globalNamed name with
  | none => rw [e] at h; simp at h
  | some g =>
    rw [e] at h
    simp only [Option.bind_some] at h ⊢
    by_cases hg : g < w.heap.size
    · rw [hb.block g hg]; exact h
    · rw [Array.getElem?_eq_none (by omega)] at h; simp at h
theorem Vars.below {w w' : World} (h : Vars w) (hb : Below w.heap.size w w') : Vars w' := var_below h hb
theorem grow_below (w : World) (k : Nat) (os : Array Obj) : Below w.heap.size w (Go.Sort.grow (w.drewN k) os) :=
  ⟨rfl, rfl, rfl, by show w.heap.size ≤ (w.heap ++ os).size; simp, fun i hi => by show (w.heap ++ os)[i]? = w.heap[i]?; rw [Array.getElem?_append_left hi]⟩
theorem itoa_any (n : Int) (w : World) (h0 : 0 ≤ n) (h1 : n ≤ 9223372036854775807) (hv : Vars w) : Calls Tryd.prog 67 #[.int .i64 n] w fun e w' => e = .returned (.string (txt n.toNat)) ∧ Below w.heap.size w w' := by
  refine (Tryd.strconv_Itoa n (by omega) h1 w hv).mono ?_
  rintro e w' ⟨rfl, k, os, rfl⟩
  refine ⟨?_, grow_below w k os⟩
  have e1 : Lib.itoa n = Lib.decDigits n.toNat := by unfold Lib.itoa; rw [if_neg (by omega)]
  rw [e1]
  rfl
theorem hash_bel (s : ByteArray) (w : World) (hs : s.size ≤ maxLen) : Calls Tryd.prog 66 #[.string s] w fun e w' => e = .returned (.int .u32 (Hash.hashN s.data.toList)) ∧ Below w.heap.size w w' :=
  (Hash.hash_any s w hs).mono fun e w' ⟨he, hw⟩ => ⟨he, by rw [hw]; exact Below.refl _ _⟩

theorem infoP : (Tryd.prog.info? 113).map (fun i => (i.zero, i.size, i.bytes)) = some (some (.agg #[.int .u32 0, .string ByteArray.empty]), 2, 24) := by kernel_rfl

set_option maxRecDepth 10000 in
set_option maxHeartbeats 2000000 in
theorem pointsOf_some (x : Nodes.D) (n : Nat) (w : World) (hx : NodesM.nodeB x = true) (hn : 8 * x.weight = (n : Int)) (hv : Vars w) :
    Calls Tryd.prog 58 #[.agg #[.string x.name, .int .i64 x.weight]] w fun e w' =>
      ∃ b, e = .returned (.slice (some ⟨b, 0, none⟩) n n) ∧ w.heap.size ≤ b ∧ w'.rowIs b 113 (n * 2) (icell (ptsN x.name n)) ∧ Below w.heap.size w w' := by
  obtain ⟨h1, -, h2, h3⟩ := node_bd hx
  have hn0 : n ≤ 40 := by omega
  have hmk := fun w => run_make_rows (P := Tryd.prog) 62 113 _ 2 24 Tryd.underlying62 infoP .i64 .i64 n (by omega) (by omega) w
  have hw8 : IntKind.i64.wrap (8 * x.weight) = (n : Int) := by rw [IntKind.wrap_i64]; omega
  have hmix : Tryd.prog.follows .mixedOrders = true := by kernel_rfl
  have HV := hide hv
  clear hv hx hn
  go_enter Tryd.func58, Tryd.ntmps58
  go_wp2
  go_loopw [12] (fun i wr => ∃ k : Nat, k ≤ n ∧ i = .int .i64 (k : Int) ∧ Hid (wr.rowIs (w.heap.size + 1) 113 (n * 2) (half (ptsN x.name n) k)) ∧ Hid (Below (w.heap.size + 1) (w.alloc (.cells #[.string x.name, .int .i64 x.weight] 42)) wr)) (fun i _ => n - (intOf i).toNat)
  case atStart => exact ⟨0, Nat.zero_le _, rfl, hide (by
      have h := (rowIs_mades (w.alloc (.cells #[.string x.name, .int .i64 x.weight] 42)) _ (n * 2) 113 _ made_zero)
      simp only [World.size_alloc] at h
      exact h.congr (fun i _ => by simp [half])), hide ((Below.refl _ _).alloc (by simp) _)⟩
  case round =>
    obtain ⟨k, hk, rfl, hrow, hbel⟩ := hrel
    have hbox := boxcell (unhide hbel)
    have c0 : wr.cell? ⟨w.heap.size, 0, none⟩ = some (.string x.name) := by rw [hbox 0, World.cell?_alloc_new]; rfl
    have hbw := hide ((bel1 w (.cells #[.string x.name, .int .i64 x.weight] 42)).trans ((unhide hbel).mono (Nat.le_succ _)))
    clear hbox
    by_cases hlt : k < n
    · have hst := hide (half_step (ptsN x.name n) k)
      rw [ptsN_get x.name n k hlt] at hst
      have hts := txt_size k (by omega)
      have hcI := fun d os => Calls.regrown_of (itoa_any (k : Int) (Go.Sort.grow (redrawn wr d) os) (by omega) (by omega) (Vars.below (Vars.below (unhide HV) (unhide hbw)) (below_regrown wr d os)))
      have hcH := fun d os => Calls.regrown_of (hash_bel ((x.name ++ ⟨#[45]⟩) ++ txt k) (Go.Sort.grow (redrawn wr d) os) (by simp [ByteArray.size_append]; unfold maxLen; have : (⟨#[45]⟩ : ByteArray).size = 1 := rfl; omega))
      rw [Int.toNat_natCast] at hcI
      unfold ptN at hst
      generalize Hash.hashN ((x.name ++ ⟨#[45]⟩) ++ txt k).data.toList = hh at hcH hst
      generalize txt k = t at hts hcI hcH
      have ad1 := fun w => run_string_add_sum (P := Tryd.prog) w x.name ⟨#[45]⟩ (by have : (⟨#[45]⟩ : ByteArray).size = 1 := rfl; omega)
      have ad2 := fun w => run_string_add_sum (P := Tryd.prog) w (x.name ++ ⟨#[45]⟩) t (by rw [ByteArray.size_append]; have : (⟨#[45]⟩ : ByteArray).size = 1 := rfl; omega)
      have q0 := cell_regrown c0
      have hlast : w.heap.size < wr.heap.size := by have := (unhide hrow).lt; omega
      have hnw : w.heap.size + 1 < wr.heap.size := (unhide hrow).lt
      go_wp2_with fail
      refine wp_region_quiet_below hmix (by kernel_rfl) ?_
      repeat (quiet_step (first | exact hcI _ _ | exact hcH _ _))
      refine wpQuiet_nil ?_
      intro _ hw'
      obtain ⟨⟨dq, osq⟩, hw''⟩ := hw'
      subst hw''
      have hbq := below_regrown wr dq osq
      generalize (Go.Sort.grow (redrawn wr dq) osq) = wc at hbq ⊢
      have z0 := (hbq.cell (p := ⟨w.heap.size, 0, none⟩) hlast).trans c0
      have hzc : wr.heap.size ≤ wc.heap.size := hbq.size
      have HBQ := hide hbq
      clear q0 hcI hcH hbq
      go_wp2_with fail
      refine (CloneS.clone_any x.name _ (by omega)).mono ?_
      rintro e wd ⟨rfl, hb2⟩
      have hbd := (unhide HBQ).trans (hb2.mono hzc)
      have rowd := (unhide hrow).of_block (hbd.block _ hnw)
      have d0 := rowd.cell (i := k * 2) (by omega)
      have d1 := rowd.cell (i := k * 2 + 1) (by omega)
      have f0 := rowd.frozen (k * 2)
      have f1 := rowd.frozen (k * 2 + 1)
      have HROW := hide ((rowd.set (k * 2) (.int .u32 hh)).set (k * 2 + 1) (.string x.name))
      have HBD := hide ((unhide hbel).trans (hbd.mono (by omega)))
      generalize half (ptsN x.name n) k (k * 2) = o0 at d0
      generalize half (ptsN x.name n) k (k * 2 + 1) = o1 at d1
      clear rowd hbd hb2 z0
      go_wp2
      go_roundw
      case rel => exact ⟨k + 1, by omega, by go_num, hide ((unhide HROW).congr (fun i _ => unhide hst i)), hide (((unhide HBD).setCell (by simp) _).setCell (by simp) _)⟩
      case measure => simp [intOf]; omega
    · have HRW := hide ((unhide hrow).congr (g := icell (ptsN x.name n)) (fun i hi => by unfold half; rw [if_pos (by omega)]))
      go_wp2
      go_ret
      exact ⟨_, rfl, by omega, unhide HRW, unhide hbw⟩
end Ring
end Go.Proofs.YthgcfklfpllgnaaDoor
