/-
  strconv.Itoa over what the library's table holds.
-/
import Derived.Test.YtghckjmpcokhcaaGreatDoorPlainA
import Derived.Test.YtghckjmpcokhcaaGreatDoorShelf
import Derived.Test.YtghckjmpcokhcaaGreatDoorRows
import Derived.Test.YtghckjmpcokhcaaGreatDoorValZ
import Derived.Lib.QuietBelow
import Derived.BigQuiet
import Derived.Outline
namespace Go.Proofs.YtghckjmpcokhcaaGreatDoor
namespace Tab
open Go.RowKit Base NumText
set_option linter.unusedVariables false

/-- What the library's table holds. -/
def Has (w : World) : Prop := Lib.TabIs Tryz.prog w "internal/strconv.uint64pow10" .u64 Lib.pow10Tab
theorem var_below {P : Program} {w w' : World} {name : String} {cs : Array Value} (h : w.var? P name = some cs) (hb : Below w.heap.size w w') : w'.var? P name = some cs := by
  unfold World.var? at *
  cases e : P.globalNamed name with
  | none => rw [e] at h; simp at h
  | some g =>
    rw [e] at h
    simp only [Option.bind_some] at h ⊢
    by_cases hg : g < w.heap.size
    · rw [hb.block g hg]; exact h
    · rw [Array.getElem?_eq_none (by omega)] at h; simp at h
theorem Has.below {w w' : World} (h : Has w) (hb : Below w.heap.size w w') : Has w' := var_below h hb
theorem grow_below (w : World) (k : Nat) (os : Array Obj) : Below w.heap.size w (Go.Sort.grow (w.drewN k) os) :=
  ⟨rfl, rfl, rfl, by show w.heap.size ≤ (w.heap ++ os).size; simp, fun i hi => by show (w.heap ++ os)[i]? = w.heap[i]?; rw [Array.getElem?_append_left hi]⟩
theorem itoa_any (n : Int) (w : World) (h0 : 0 ≤ n) (h1 : n ≤ 9223372036854775807) (hv : Has w) : Calls Tryz.prog 63 #[.int .i64 n] w fun e w' => e = .returned (.string (txt n.toNat)) ∧ Below w.heap.size w w' := by
  refine (Tryz.strconv_Itoa n (by omega) h1 w hv).mono ?_
  rintro e w' ⟨rfl, k, os, rfl⟩
  refine ⟨?_, grow_below w k os⟩
  have e1 : Lib.itoa n = Lib.decDigits n.toNat := by unfold Lib.itoa; rw [if_neg (by omega)]
  rw [e1]
  rfl
end Tab
end Go.Proofs.YtghckjmpcokhcaaGreatDoor
/-
  The program's valueText: an item as it is told.
-/
namespace Go.Proofs.YtghckjmpcokhcaaGreatDoor
namespace Shelf
open Go.RowKit Base Items Store GoodKey NumText
set_option linter.unusedVariables false

set_option maxRecDepth 10000 in
set_option maxHeartbeats 1000000 in
theorem valueText_gen (x : Itm) (token : Bool) (w : World) (hx : Small x) (h1 : 0 ≤ x.flags ∧ x.flags ≤ 1000000000) (h2 : token = true → 0 ≤ x.token ∧ x.token ≤ 1000000000) (hv : Tab.Has w) :
    Calls Tryz.prog 31 #[.agg #[.string x.key, .int .i64 x.flags, .string x.data, .int .i64 x.upto, .int .i64 x.token], .bool token] w fun e w' => e = .returned (.string (valueR x token)) ∧ Below w.heap.size w w' := by
  obtain ⟨hk, hd⟩ := hx
  have hbel : ∀ d os, Below w.heap.size w (Go.Sort.grow (redrawn (w.alloc (.cells #[.string x.key, .int .i64 x.flags, .string x.data, .int .i64 x.upto, .int .i64 x.token] 35)) d) os) := fun d os => (bel1 w _).trans ((below_regrown _ d os).mono (by simp))
  have cI := fun (n : Int) (h0 : 0 ≤ n) (hn : n ≤ 9223372036854775807) d os => Calls.regrown_of (Tab.itoa_any n (Go.Sort.grow (redrawn (w.alloc (.cells #[.string x.key, .int .i64 x.flags, .string x.data, .int .i64 x.upto, .int .i64 x.token] 35)) d) os) h0 hn (hv.below (hbel d os)))
  have c1 := cI x.flags h1.1 (by omega)
  have c2 := cI (x.data.size : Int) (by omega) (by omega)
  simp only [Int.toNat_natCast] at c2
  have s1 := txt_le x.flags.toNat (by omega)
  have s2 := txt_le x.data.size (by omega)
  have s3 : token = true → (txt x.token.toNat).size ≤ 20 := fun h => txt_le x.token.toNat (by have := h2 h; omega)
  have hi3 := hide (fun (ht : token = true) w' (h : Tab.Has w') => Tab.itoa_any x.token w' (h2 ht).1 (by have := h2 ht; omega) h)
  clear h2
  have HV := hide hv
  have HR : Hid (∀ t, t = valueR x token → Ending.returned (.string t) = .returned (.string (valueR x token))) := fun t h => by rw [h]
  obtain ⟨k0, k1, k2, k3, k4⟩ := bx5' w 35 (.string x.key) (.int .i64 x.flags) (.string x.data) (.int .i64 x.upto) (.int .i64 x.token)
  have p0 := cell_regrown k0
  have p1 := cell_regrown k1
  have p2 := cell_regrown k2
  have hmix : Tryz.prog.follows .mixedOrders = true := by kernel_rfl
  clear cI hv
  generalize ht1 : txt x.flags.toNat = t1 at c1 s1
  generalize ht2 : txt x.data.size = t2 at c2 s2
  generalize ht3 : txt x.token.toNat = t3 at hi3 s3
  have HT := hide (And.intro ht1 (And.intro ht2 ht3))
  clear ht1 ht2 ht3
  have n1 : ¬ 9223372036854775807 < 6 + x.key.size := by omega
  have n2 : ¬ 9223372036854775807 < 6 + x.key.size + 1 := by omega
  have n3 : ¬ 9223372036854775807 < 6 + x.key.size + 1 + t1.size := by omega
  have n4 : ¬ 9223372036854775807 < 6 + x.key.size + 1 + t1.size + 1 := by omega
  have n5 : ¬ 9223372036854775807 < 6 + x.key.size + 1 + t1.size + 1 + t2.size := by omega
  go_enter Tryz.func31, Tryz.ntmps31
  go_wp2_with fail
  refine wp_region_quiet_below hmix (by kernel_rfl) ?_
  repeat (quiet_step (first | exact c1 _ _ | exact c2 _ _))
  refine wpQuiet_nil ?_
  intro _ hw'
  obtain ⟨⟨dq, osq⟩, hw''⟩ := hw'
  subst hw''
  have hbw := hide (hbel dq osq)
  have q2 := p2 dq osq
  have q4 := cell_regrown k4 dq osq
  have HVc := hide ((unhide HV).below (unhide hbw))
  generalize (Go.Sort.grow (redrawn (w.alloc (.cells #[.string x.key, .int .i64 x.flags, .string x.data, .int .i64 x.upto, .int .i64 x.token] 35)) dq) osq) = wc at hbw q2 q4 HVc ⊢
  clear p0 p1 p2 c1 c2 k0 k1 k2 k3 k4 hbel
  have hls : (({ data := #[86, 65, 76, 85, 69, 32] } : ByteArray) ++ x.key ++ { data := #[32] } ++ t1 ++ { data := #[32] } ++ t2).size = 6 + x.key.size + 1 + t1.size + 1 + t2.size := by simp [ByteArray.size_append]; rfl
  generalize hl : (({ data := #[86, 65, 76, 85, 69, 32] } : ByteArray) ++ x.key ++ { data := #[32] } ++ t1 ++ { data := #[32] } ++ t2) = l at hls ⊢
  have HL := hide hl
  clear hl
  have m1 : ¬ 9223372036854775807 < l.size + 2 := by omega
  have m2 : ¬ 9223372036854775807 < l.size + 2 + x.data.size := by omega
  have m3 : ¬ 9223372036854775807 < l.size + 2 + x.data.size + 2 := by omega
  cases token
  · go_wp2
    refine bodyPost_ret (v := .string (l ++ endS ++ x.data ++ endS)) (by simp [results, Tryz.results31, go_sem, endS]; done) rfl ⟨unhide HR _ ?_, unhide hbw⟩
    obtain ⟨e1, e2, e3⟩ := unhide HT
    unfold valueR lineR
    rw [e1, e2]
    exact congrArg (fun b => b ++ endS ++ x.data ++ endS) (unhide HL).symm
  · have s3 := s3 rfl
    have hi4 := hide (unhide hi3 rfl)
    clear hi3
    have m4 : ¬ 9223372036854775807 < 1 + t3.size := by omega
    have m5 : ¬ 9223372036854775807 < l.size + (1 + t3.size) := by omega
    go_wp2_with fail
    refine (unhide hi4 _ (unhide HVc)).mono ?_
    rintro _ wd ⟨rfl, hbd⟩
    have q5 : wd.cell? ⟨w.heap.size, 2, none⟩ = some (.string x.data) := by rw [hbd.cell (block_lt_of_cell q2)]; exact q2
    have HBD := hide (Below.trans (unhide hbw) (hbd.mono (unhide hbw).size))
    clear hbd q2 q4
    have hls2 : (l ++ (({ data := #[32] } : ByteArray) ++ t3)).size = l.size + (1 + t3.size) := by simp [ByteArray.size_append]; rfl
    have m6 : ¬ 9223372036854775807 < l.size + (1 + t3.size) + 2 := by omega
    have m7 : ¬ 9223372036854775807 < l.size + (1 + t3.size) + 2 + x.data.size := by omega
    have m8 : ¬ 9223372036854775807 < l.size + (1 + t3.size) + 2 + x.data.size + 2 := by omega
    go_wp2
    refine bodyPost_ret (v := .string (l ++ (blankS ++ t3) ++ endS ++ x.data ++ endS)) (by simp [results, Tryz.results31, go_sem, endS, blankS]; done) rfl ⟨unhide HR _ ?_, unhide HBD⟩
    obtain ⟨e1, e2, e3⟩ := unhide HT
    unfold valueR lineR
    rw [e1, e2, e3]
    exact congrArg (fun b => b ++ (blankS ++ t3) ++ endS ++ x.data ++ endS) (unhide HL).symm
end Shelf
end Go.Proofs.YtghckjmpcokhcaaGreatDoor
