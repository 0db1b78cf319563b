/-
  The model's ReadValues: the items of which this is the text.
-/
import Derived.Test.YtghckjmpcokhcaaGreatDoorRdW
import Derived.Test.YtghckjmpcokhcaaGreatDoorRdKZ
import Derived.Test.YtghckjmpcokhcaaGreatDoorValY
import Derived.Test.YtghckjmpcokhcaaGreatDoorMergeGZ
import Derived.Deep.RegionHeld3
import Derived.Deep.DeepCutAuto
namespace Go.Proofs.YtghckjmpcokhcaaGreatDoor
namespace Rd
open Go.RowKit Base Items Store GoodKey NumText Sp Count Vals Marks Own
set_option linter.unusedVariables false

def strLen2 : Value → Nat
  | .string s => s.size
  | _ => 0
theorem info_item2 : ∃ i, Tryz.prog.info? 35 = some i ∧ i.zero = some (.agg #[.string ByteArray.empty, .int .i64 0, .string ByteArray.empty, .int .i64 0, .int .i64 0]) ∧ i.size = 5 ∧ i.bytes = 56 := by
  have h : (Tryz.prog.info? 35).map (fun i => (i.zero, i.size, i.bytes)) = some (some (.agg #[.string ByteArray.empty, .int .i64 0, .string ByteArray.empty, .int .i64 0, .int .i64 0]), 5, 56) := by kernel_rfl
  obtain ⟨i, hi, hz⟩ := Option.map_eq_some_iff.1 h
  simp only [Prod.mk.injEq] at hz
  exact ⟨i, hi, hz.1, hz.2.1, hz.2.2⟩
/-- What the model has put together. -/
structure Its (token : Bool) (its : List Itm) : Prop where
  can : ∀ x ∈ its, Canon x token
  fit : ∀ x ∈ its, Fits x
/-- How the model's ReadValues ends. -/
def MdEnd (s : ByteArray) (token : Bool) (w : World) (e : Ending) (w' : World) : Prop :=
  ∃ v its ok, e = .returned (.tuple #[v, .bool ok]) ∧ w'.ownsRow w.heap.size 35 5 v its.length (flat its) ∧ Below w.heap.size w w' ∧ ((ok = true ∧ rdR s token = some its) ∨ (ok = false ∧ its = [] ∧ rdR s token = none))
theorem md_fail {s : ByteArray} {token : Bool} {w w' : World} (hb : Below w.heap.size w w') (hR : rdR s token = none) : MdEnd s token w (.returned (.tuple #[.slice none 0 0, .bool false])) w' :=
  ⟨_, [], false, rfl, World.ownsRow_nil _ _ _ _, hb, .inr ⟨rfl, rfl, hR⟩⟩
theorem md_ok {s : ByteArray} {token : Bool} {w w' : World} {v : Value} {its : List Itm} (ho : w'.ownsRow w.heap.size 35 5 v its.length (flat its)) (hb : Below w.heap.size w w') (hR : rdR s token = some its) : MdEnd s token w (.returned (.tuple #[v, .bool true])) w' :=
  ⟨_, its, true, rfl, ho, hb, .inl ⟨rfl, hR⟩⟩
theorem join_le2 : ∀ {ws : List (List UInt8)} {a : List UInt8}, a ∈ ws → a.length ≤ (join ws).length
  | [], _, h => by simp at h
  | [b], a, h => by simp at h; subst h; exact Nat.le_refl _
  | b :: c :: r, a, h => by
    rw [join_cons (by simp)]
    simp only [List.length_append, List.length_cons]
    rw [List.mem_cons] at h
    rcases h with rfl | h
    · omega
    · have := join_le2 h; omega
theorem word_short {ws : List ByteArray} {l : List UInt8} (h : ws.map bl = sp l) (i : Nat) (hi : i < ws.length) : (ws.getD i ByteArray.empty).size ≤ l.length := by
  rw [List.getD_eq_getElem?_getD, List.getElem?_eq_getElem hi]
  show ws[i].size ≤ _
  have hm : bl ws[i] ∈ sp l := by rw [← h]; exact List.mem_map_of_mem (List.getElem_mem hi)
  have := join_le2 hm
  rw [join_sp, bl_len] at this
  exact this
theorem l1Read_bl (s : ByteArray) (hs : s.size ≤ 1048576) (w : World) :
    Calls Tryz.prog 69 #[.string s] w fun e w' => e = .returned (.int .i64 (mrd (bl s))) ∧ w' = w := l1Read_any s w hs
theorem its_snoc {token : Bool} {its : List Itm} (h : Its token its) {x : Itm} (hc : Canon x token) (hf : Fits x) : Its token (its ++ [x]) := by
  constructor
  · intro y hy
    rcases List.mem_append.1 hy with h' | h'
    · exact h.can y h'
    · rw [List.mem_singleton.1 h']; exact hc
  · intro y hy
    rcases List.mem_append.1 hy with h' | h'
    · exact h.fit y h'
    · rw [List.mem_singleton.1 h']; exact hf
theorem byte_10 {c : UInt8} : ((c.toNat : Int) == 10) = decide (c = 10) := by
  have h : c = 10 ↔ c.toNat = 10 := ⟨fun h => by rw [h]; rfl, fun h => UInt8.toNat_inj.1 (by rw [h]; rfl)⟩
  by_cases e : c = 10
  · rw [e]; rfl
  · have : ¬ c.toNat = 10 := fun q => e (h.2 q)
    rw [decide_eq_false e]
    simp only [beq_eq_false_iff_ne, ne_eq]
    omega
theorem ten_skip {s : ByteArray} {j : Nat} (h : 10 ∉ (bl s).take j) (hj : j < s.size) (hc : s[j] ≠ 10) : 10 ∉ (bl s).take (j + 1) := by
  rw [List.take_succ_eq_append_getElem (by rw [bl_len]; exact hj)]
  simp only [List.mem_append, List.mem_singleton, not_or]
  exact ⟨h, fun e => hc e.symm⟩
theorem ten_end {s : ByteArray} {j : Nat} (h : 10 ∉ (bl s).take j) (hj : j = s.size) : Ten (bl s) j := ⟨by rw [bl_len]; omega, h, .inl (by rw [bl_len]; exact hj)⟩
theorem ten_hit {s : ByteArray} {j : Nat} (h : 10 ∉ (bl s).take j) (hj : j < s.size) (hc : s[j] = 10) : Ten (bl s) j :=
  ⟨by rw [bl_len]; omega, h, .inr (by rw [List.getElem?_eq_getElem (by rw [bl_len]; exact hj)]; exact congrArg some hc)⟩
set_option maxRecDepth 10000 in
set_option maxHeartbeats 8000000 in
theorem l6Read_any (s : ByteArray) (token : Bool) (w : World) (hs : s.size ≤ 1048576) :
    Calls Tryz.prog 38 #[.string s, .bool token] w (MdEnd s token w) := by
  obtain ⟨i0_, hi, hz0, hz1, hz2⟩ := info_item2
  have HI := hide hi
  have HZ0 := hide hz0
  have HZ1 := hide hz1
  have HZ2 := hide hz2
  clear hi hz0 hz1 hz2
  go_enter Tryz.func38, Tryz.ntmps38
  go_wp2
  go_loopw [6, 7] (fun v rv wr => ∃ (its : List Itm) (rest : ByteArray), rv = .string rest ∧ rest.size ≤ 1048576 ∧ its.length ≤ 61 ∧ Hid (MI s token its rest) ∧ Hid (Its token its) ∧ Hid (wr.ownsRow w.heap.size 35 5 v its.length (flat its)) ∧ Hid (Below w.heap.size w wr)) (fun _ rv _ => strLen2 rv)
  case atStart => exact ⟨[], s, rfl, hs, Nat.zero_le _, hide (mi_start s token), hide ⟨by simp, by simp⟩, hide (World.ownsRow_nil _ _ _ _), hide (Below.refl _ _)⟩
  case round =>
    obtain ⟨its, rest, rfl, hrz, hil, hmi, hits, hown, hbel⟩ := hrel
    obtain ⟨va, vc, rfl⟩ := own_form (unhide hown)
    have hzw := (unhide hbel).size
    by_cases h60 : its.length ≤ 60
    · have h60' : (its.length : Int) ≤ 60 := by omega
      go_wp2
      go_loop [8] (fun ev => ∃ j : Nat, j ≤ rest.size ∧ ev = .int .i64 (j : Int) ∧ Hid (10 ∉ (bl rest).take j)) (fun ev => rest.size - (intOf ev).toNat)
      case atStart => exact ⟨0, Nat.zero_le _, rfl, hide (by simp)⟩
      case round =>
        obtain ⟨j, hj, rfl, hno⟩ := hrel
        by_cases hjl : j < rest.size
        · have hb10 := @byte_10 rest[j]
          by_cases hc : rest[j] = 10
          · have HT := hide (ten_hit (unhide hno) hjl hc)
            rw [decide_eq_true hc] at hb10
            clear hc hno
            by_cases hj0 : j = 0
            · have hR := hide (mi_none (unhide hmi) (unhide HT) (.inl hj0))
              subst hj0
              go_wp2
              all_goals
                go_ret2
                exact md_fail (unhide hbel) (unhide hR)
            · have hw1 : IntKind.i64.wrap ((j : Int) - 1) = (j : Int) - 1 := by rw [IntKind.wrap_i64]; omega
              have hw2 : ((j : Int) - 1).toNat = j - 1 := by omega
              have hw3 : (0 : Int) ≤ (j : Int) - 1 := by omega
              have hw4 : (j : Int) - 1 ≤ (rest.size : Int) := by omega
              have hj0' : ¬ (j : Int) = 0 := by omega
              have hjs : ¬ (j : Int) = (rest.size : Int) := by omega
              have hj0b : ((j : Int) == 0) = false := by simp; omega
              have hjsb : ((j : Int) == (rest.size : Int)) = false := by simp; omega
              have HSP := hide (fun w' => l1Split_any (rest.extract 0 (j - 1)) w' (by simp; omega))
              have hext : bl (rest.extract 0 (j - 1)) = (bl rest).take (j - 1) := by rw [ext_bl]; simp
              rw [hext] at HSP
              clear hext
              go_wp2_with fail
              refine (unhide HSP _).mono ?_
              rintro e w1 ⟨g, c, ws, rfl, hws, hrow, hg, hb1⟩
              have HW := hide hws
              have hsh := fun i hi => Nat.le_trans (word_short hws i hi) (show _ ≤ 1048576 by rw [List.length_take, bl_len]; omega)
              have SH := hide hsh
              clear hsh
              have ROW := hide hrow
              have B1 := hide ((unhide hbel).trans (hb1.mono hzw))
              have O1 := hide (own_below (unhide hown) hb1 (Nat.le_refl _))
              have hgl := hrow.lt
              have hz1 := (unhide B1).size
              clear hws hrow hb1 HSP hw1 hw2 hw3 hw4
              by_cases h1 : ws.length = 1
              · have HF := hide (mi_break (unhide hmi) (unhide HT) (unhide HW) h1)
                have h1' : (ws.length : Int) = 1 := by omega
                have h1b : ((ws.length : Int) == 1) = true := by simp; omega
                clear ROW HW SH
                have HAT := hide (own_at (unhide O1))
                have HVT := hide (Vals.spec_any va vc its token w1 (unhide HAT) (by omega) (unhide hits).fit)
                obtain ⟨hE1, hE2⟩ := mi_end (unhide HF) (unhide hits).can
                generalize vtR its token = VR at HVT hE1 hE2
                obtain ⟨vs, vk⟩ := VR
                dsimp only at HVT hE1 hE2
                unfold vtV at HVT
                have HE1 := hide hE1
                have HE2 := hide hE2
                clear hE1 hE2 HF HAT
                go_wp2_with fail
                refine (unhide HVT).mono ?_
                rintro e wv ⟨rfl, hbv⟩
                have BV := hide ((unhide B1).trans (hbv.mono (unhide B1).size))
                have OV := hide (own_below (unhide O1) hbv (Nat.le_refl _))
                clear hbv HVT
                cases vk
                · have hR := hide (unhide HE2 (by simp))
                  clear HE1 HE2
                  go_wp2
                  all_goals
                    go_ret2
                    exact md_fail (unhide BV) (unhide hR)
                · by_cases hq : vs = s
                  · have hR := hide (unhide HE1 ⟨rfl, hq⟩)
                    have hq' := str_eq hq
                    clear HE1 HE2 hq
                    go_wp2
                    go_ret2
                    exact md_ok (unhide OV) (unhide BV) (unhide hR)
                  · have hR := hide (unhide HE2 (fun h => hq h.2))
                    have hq' := str_ne hq
                    clear HE1 HE2 hq
                    go_wp2
                    all_goals
                      go_ret2
                      exact md_fail (unhide BV) (unhide hR)
              · have h1' : ¬ (ws.length : Int) = 1 := by omega
                have h1b : ((ws.length : Int) == 1) = false := by simp; omega
                by_cases h2 : ws.length = many token
                case neg =>
                  have hR := hide (mi_words (unhide hmi) (unhide HT) (unhide HW) h1 h2)
                  clear ROW HW SH
                  cases token
                  · have h2' : ¬ (ws.length : Int) = 4 := by simp [many] at h2; omega
                    have h2b : ((ws.length : Int) == 4) = false := by simp; omega
                    clear h2
                    go_wp2
                    all_goals
                      go_ret2
                      exact md_fail (unhide B1) (unhide hR)
                  · have h2' : ¬ (ws.length : Int) = 5 := by simp [many] at h2; omega
                    have h2b : ((ws.length : Int) == 5) = false := by simp; omega
                    clear h2
                    go_wp2
                    all_goals
                      go_ret2
                      exact md_fail (unhide B1) (unhide hR)
                have HSZ := hide (mi_size (unhide hmi) (unhide HT) (unhide HW) h2)
                have HNX := hide (mi_next (unhide hmi) (unhide HT) (unhide HW) h2)
                clear HW
                cases token
                · have hwl : ws.length = 4 := h2
                  have hwl' : (ws.length : Int) = 4 := by omega
                  have c1 : w1.cell? ⟨g, 1, none⟩ = some (.string (ws.getD 1 ByteArray.empty)) := (unhide ROW).cell (by omega)
                  have c2 : w1.cell? ⟨g, 2, none⟩ = some (.string (ws.getD 2 ByteArray.empty)) := (unhide ROW).cell (by omega)
                  have c3 : w1.cell? ⟨g, 3, none⟩ = some (.string (ws.getD 3 ByteArray.empty)) := (unhide ROW).cell (by omega)
                  have HMT : Hid (mitem false ws rest j = ⟨ws.getD 1 ByteArray.empty, mrd (bl (ws.getD 2 ByteArray.empty)), rest.extract (j + 1) (j + 1 + (mrd (bl (ws.getD 3 ByteArray.empty))).toNat), 0, 0⟩) := rfl
                  have HR2 := hide (l1Read_bl _ (unhide SH 2 (by omega)))
                  have HR3 := hide (l1Read_bl _ (unhide SH 3 (by omega)))
                  have SH1 := hide (unhide SH 1 (by omega))
                  generalize ws.getD 1 ByteArray.empty = y1 at c1 HMT SH1
                  generalize ws.getD 2 ByteArray.empty = y2 at c2 HMT HR2
                  generalize ws.getD 3 ByteArray.empty = y3 at c3 HMT HR3 HSZ HNX
                  have hb2 := mrd_bd (bl y2)
                  have hb3 := mrd_bd (bl y3)
                  generalize mrd (bl y2) = z2 at HMT HR2 hb2
                  generalize mrd (bl y3) = z3 at HMT HR3 hb3 HSZ HNX
                  rw [unhide HMT] at HNX
                  clear HMT ROW SH h2 hwl'
                  have hwl2 : ((ws.length : Int) == 4) = true := by simp; omega
                  go_wp2_with fail
                  go_cut [11] (fun s11 wx => s11 = .pointer (some ⟨w1.heap.size, 0, none⟩) ∧ Hid (IB wx w1.heap.size ⟨y1, z2, ByteArray.empty, 0, 0⟩) ∧ Hid (Below w1.heap.size w1 wx))
                  case first =>
                    go_region_held3 (fun u => u.cell? ⟨g, 1, none⟩ = some (.string y1) ∧ u.cell? ⟨g, 2, none⟩ = some (.string y2)) (first | go_keep | (refine ⟨?_, ?_⟩ <;> first | assumption | (simp [*]; done) | (simp; omega))) (first | (go_at_call 69; refine (unhide HR2 _).mono ?_; rintro e wu ⟨rfl, rfl⟩))
                    all_goals
                      go_wp2_with fail
                      go_meet
                      refine ⟨rfl, hide ?_, hide ?_⟩
                      · exact heap_alloc_new w1 _
                      · exact (bel1 w1 _).drew
                  case rest =>
                  obtain ⟨rfl, I2, C2⟩ := hcut
                  have c3c := ((unhide C2).cell (p := ⟨g, 3, none⟩) hgl).trans c3
                  clear c1 c2 c3
                  go_wp2_with fail
                  refine (unhide HR3 _).mono ?_
                  rintro e w6 ⟨rfl, hw6⟩
                  rw [hw6]
                  clear hw6 w6 c3c
                  have BB := hide ((unhide B1).trans ((unhide C2).mono hz1))
                  cases hin : inB z3 0 100
                  · have hR := hide (unhide HSZ (.inl hin))
                    clear HSZ HNX
                    go_wp2_with (go_at_call 58; refine (l1In_any _ _ _ _).mono ?_; rintro e w7 ⟨rfl, hw7⟩; rw [hw7]; clear hw7 w7)
                    all_goals
                      go_ret2
                      exact md_fail (unhide BB) (unhide hR)
                  have hz3 : 0 ≤ z3 ∧ z3 ≤ 100 := by simp [inB] at hin; omega
                  obtain ⟨n, rfl⟩ : ∃ n : Nat, z3 = (n : Int) := ⟨z3.toNat, by omega⟩
                  by_cases hsz : (rest.size : Int) < (j : Int) + 1 + (n : Int) + 2
                  · have hR := hide (unhide HSZ (.inr hsz))
                    clear HSZ HNX
                    go_wp2_with (go_at_call 58; refine (l1In_any _ _ _ _).mono ?_; rintro e w7 ⟨rfl, hw7⟩; rw [hw7]; clear hw7 w7)
                    all_goals
                      go_ret2
                      exact md_fail (unhide BB) (unhide hR)
                  have HN := hide (unhide HNX (by rw [hin]; simp) (by omega))
                  clear HSZ HNX
                  rw [Int.toNat_natCast] at HN
                  have hxd : (rest.extract (j + 1) (j + 1 + n)).size = n := by rw [ByteArray.size_extract]; omega
                  have IS := hide (its_snoc (unhide hits) (x := ⟨y1, z2, rest.extract (j + 1) (j + 1 + n), 0, 0⟩) ⟨rfl, by simp⟩ ⟨by have := unhide SH1; show y1.size ≤ _; unfold maxLen; omega, by show _ ≤ _; rw [hxd]; unfold maxLen; omega⟩)
                  clear hxd
                  have t1 : ((j : Int) + 1).toNat = j + 1 := by omega
                  have t2 : ((j : Int) + 1 + (n : Int)).toNat = j + 1 + n := by omega
                  have t3 : ((j : Int) + 1 + (n : Int) + 2).toNat = j + 1 + n + 2 := by omega
                  have t4 : (j : Int) + 1 ≤ (j : Int) + 1 + (n : Int) := by omega
                  have t5 : (j : Int) + 1 + (n : Int) ≤ (rest.size : Int) := by omega
                  have t6 : (j : Int) + 1 + (n : Int) + 2 ≤ (rest.size : Int) := by omega
                  have t7 : (0 : Int) ≤ (j : Int) + 1 + (n : Int) + 2 := by omega
                  have t8 : (0 : Int) ≤ (j : Int) + 1 := by omega
                  obtain ⟨i0, i1, i2, i3, i4, if0, il⟩ := (unhide I2).cells
                  dsimp only at i0 i1 i2 i3 i4
                  have I8 := hide ((unhide I2).data (rest.extract (j + 1) (j + 1 + n)))
                  have C8 := hide ((unhide C2).setCell (p := ⟨w1.heap.size, 2, none⟩) (Nat.le_refl _) (.string (rest.extract (j + 1) (j + 1 + n))))
                  go_upto_region 23 with (go_at_call 58; refine (l1In_any _ _ _ _).mono ?_; rintro e w7 ⟨rfl, hw7⟩; rw [hw7]; clear hw7 w7)
                  generalize wc.setCell ⟨w1.heap.size, 2, none⟩ (.string (rest.extract (j + 1) (j + 1 + n))) = w8 at I8 C8 ⊢
                  clear i0 i1 i2 i3 i4 if0 il I2 C2 BB
                  have O8 := hide (own_below (unhide O1) (unhide C8) (Nat.le_refl _))
                  have B8 := hide ((unhide B1).trans ((unhide C8).mono hz1))
                  have hz8 := (unhide B8).size
                  obtain ⟨i0, i1, i2, i3, i4, if0, il⟩ := (unhide I8).cells
                  dsimp only at i0 i1 i2 i3 i4
                  clear I8 C8 O1 B1
                  go_wp2_with (at_builtin; go_loud (refine wpList_append_own _ rfl _ _ 33 rfl w.heap.size 35 i0_ _ 5 56 Tryz.underlying33 (unhide HI) (unhide HZ0) (unhide HZ1) (unhide HZ2) rfl (by decide) _ _ _ rfl ((unhide O8).alloc _) ⟨w8.heap.size, 0, none⟩ 1 1 (cellsOf ⟨y1, z2, rest.extract (j + 1) (j + 1 + n), 0, 0⟩) rfl rfl ?c1 ?c2 ?c3 ?c4 ?c5 ?_))
                  case c1 => exact news_cells w8 ⟨y1, z2, rest.extract (j + 1) (j + 1 + n), 0, 0⟩ _
                  case c2 => exact news_one _
                  case c3 => unfold maxLen; omega
                  case c4 => omega
                  case c5 => simp; omega
                  intro v' w9 hown' hgrow _
                  have O9 : Hid (w9.ownsRow w.heap.size 35 5 v' (its ++ [(⟨y1, z2, rest.extract (j + 1) (j + 1 + n), 0, 0⟩ : Itm)]).length (flat (its ++ [⟨y1, z2, rest.extract (j + 1) (j + 1 + n), 0, 0⟩]))) := own_snoc hown' rfl
                  have B9 := hide (((unhide B8).alloc (by omega) _).grown hgrow (by simp; omega) (own_block (unhide O8)))
                  clear hown' hgrow i0 i1 i2 i3 i4 if0 il
                  go_wp2
                  go_roundw
                  case rel => exact ⟨_, _, rfl, by rw [ByteArray.size_extract]; omega, by rw [List.length_append]; simp; omega, HN, IS, O9, B9⟩
                  case measure => simp [strLen2]; omega
                · have hwl : ws.length = 5 := h2
                  have hwl' : (ws.length : Int) = 5 := by omega
                  have c1 : w1.cell? ⟨g, 1, none⟩ = some (.string (ws.getD 1 ByteArray.empty)) := (unhide ROW).cell (by omega)
                  have c2 : w1.cell? ⟨g, 2, none⟩ = some (.string (ws.getD 2 ByteArray.empty)) := (unhide ROW).cell (by omega)
                  have c3 : w1.cell? ⟨g, 3, none⟩ = some (.string (ws.getD 3 ByteArray.empty)) := (unhide ROW).cell (by omega)
                  have c4 : w1.cell? ⟨g, 4, none⟩ = some (.string (ws.getD 4 ByteArray.empty)) := (unhide ROW).cell (by omega)
                  have HMT : Hid (mitem true ws rest j = ⟨ws.getD 1 ByteArray.empty, mrd (bl (ws.getD 2 ByteArray.empty)), rest.extract (j + 1) (j + 1 + (mrd (bl (ws.getD 3 ByteArray.empty))).toNat), 0, mrd (bl (ws.getD 4 ByteArray.empty))⟩) := rfl
                  have HR2 := hide (l1Read_bl _ (unhide SH 2 (by omega)))
                  have HR3 := hide (l1Read_bl _ (unhide SH 3 (by omega)))
                  have HR4 := hide (l1Read_bl _ (unhide SH 4 (by omega)))
                  have SH1 := hide (unhide SH 1 (by omega))
                  generalize ws.getD 1 ByteArray.empty = y1 at c1 HMT SH1
                  generalize ws.getD 2 ByteArray.empty = y2 at c2 HMT HR2
                  generalize ws.getD 3 ByteArray.empty = y3 at c3 HMT HR3 HSZ HNX
                  generalize ws.getD 4 ByteArray.empty = y4 at c4 HMT HR4
                  have hb2 := mrd_bd (bl y2)
                  have hb3 := mrd_bd (bl y3)
                  have hb4 := mrd_bd (bl y4)
                  generalize mrd (bl y2) = z2 at HMT HR2 hb2
                  generalize mrd (bl y3) = z3 at HMT HR3 hb3 HSZ HNX
                  generalize mrd (bl y4) = z4 at HMT HR4 hb4
                  rw [unhide HMT] at HNX
                  clear HMT ROW SH h2 hwl'
                  have hwl2 : ((ws.length : Int) == 5) = true := by simp; omega
                  go_wp2_with fail
                  go_cut [11] (fun s11 wx => s11 = .pointer (some ⟨w1.heap.size, 0, none⟩) ∧ Hid (IB wx w1.heap.size ⟨y1, z2, ByteArray.empty, 0, 0⟩) ∧ Hid (Below w1.heap.size w1 wx))
                  case first =>
                    go_region_held3 (fun u => u.cell? ⟨g, 1, none⟩ = some (.string y1) ∧ u.cell? ⟨g, 2, none⟩ = some (.string y2)) (first | go_keep | (refine ⟨?_, ?_⟩ <;> first | assumption | (simp [*]; done) | (simp; omega))) (first | (go_at_call 69; refine (unhide HR2 _).mono ?_; rintro e wu ⟨rfl, rfl⟩))
                    all_goals
                      go_wp2_with fail
                      go_meet
                      refine ⟨rfl, hide ?_, hide ?_⟩
                      · exact heap_alloc_new w1 _
                      · exact (bel1 w1 _).drew
                  case rest =>
                  obtain ⟨rfl, I2, C2⟩ := hcut
                  have c3c := ((unhide C2).cell (p := ⟨g, 3, none⟩) hgl).trans c3
                  have c4c := ((unhide C2).cell (p := ⟨g, 4, none⟩) hgl).trans c4
                  clear c1 c2 c3 c4
                  go_wp2_with fail
                  refine (unhide HR4 _).mono ?_
                  rintro e w4 ⟨rfl, hw4⟩
                  rw [hw4]
                  clear hw4 w4
                  obtain ⟨i0, i1, i2, i3, i4, if0, il⟩ := (unhide I2).cells
                  dsimp only at i0 i1 i2 i3 i4
                  have I3 := hide ((unhide I2).token z4)
                  have C3 := hide ((unhide C2).setCell (p := ⟨w1.heap.size, 4, none⟩) (Nat.le_refl _) (.int .i64 z4))
                  go_upto_region 19 with fail
                  generalize wc.setCell ⟨w1.heap.size, 4, none⟩ (.int .i64 z4) = w5 at I3 C3 ⊢
                  clear i0 i1 i2 i3 i4 if0 il c4c
                  have c3d := ((unhide C3).cell (p := ⟨g, 3, none⟩) hgl).trans ((((unhide C2).cell (p := ⟨g, 3, none⟩) hgl).symm).trans c3c)
                  clear c3c I2 C2
                  go_wp2_with fail
                  refine (unhide HR3 _).mono ?_
                  rintro e w6 ⟨rfl, hw6⟩
                  rw [hw6]
                  clear hw6 w6 c3d
                  have BB := hide ((unhide B1).trans ((unhide C3).mono hz1))
                  cases hin : inB z3 0 100
                  · have hR := hide (unhide HSZ (.inl hin))
                    clear HSZ HNX
                    go_wp2_with (go_at_call 58; refine (l1In_any _ _ _ _).mono ?_; rintro e w7 ⟨rfl, hw7⟩; rw [hw7]; clear hw7 w7)
                    all_goals
                      go_ret2
                      exact md_fail (unhide BB) (unhide hR)
                  have hz3 : 0 ≤ z3 ∧ z3 ≤ 100 := by simp [inB] at hin; omega
                  obtain ⟨n, rfl⟩ : ∃ n : Nat, z3 = (n : Int) := ⟨z3.toNat, by omega⟩
                  by_cases hsz : (rest.size : Int) < (j : Int) + 1 + (n : Int) + 2
                  · have hR := hide (unhide HSZ (.inr hsz))
                    clear HSZ HNX
                    go_wp2_with (go_at_call 58; refine (l1In_any _ _ _ _).mono ?_; rintro e w7 ⟨rfl, hw7⟩; rw [hw7]; clear hw7 w7)
                    all_goals
                      go_ret2
                      exact md_fail (unhide BB) (unhide hR)
                  have HN := hide (unhide HNX (by rw [hin]; simp) (by omega))
                  clear HSZ HNX
                  rw [Int.toNat_natCast] at HN
                  have hxd : (rest.extract (j + 1) (j + 1 + n)).size = n := by rw [ByteArray.size_extract]; omega
                  have IS := hide (its_snoc (unhide hits) (x := ⟨y1, z2, rest.extract (j + 1) (j + 1 + n), 0, z4⟩) ⟨rfl, by simp⟩ ⟨by have := unhide SH1; show y1.size ≤ _; unfold maxLen; omega, by show _ ≤ _; rw [hxd]; unfold maxLen; omega⟩)
                  clear hxd
                  have t1 : ((j : Int) + 1).toNat = j + 1 := by omega
                  have t2 : ((j : Int) + 1 + (n : Int)).toNat = j + 1 + n := by omega
                  have t3 : ((j : Int) + 1 + (n : Int) + 2).toNat = j + 1 + n + 2 := by omega
                  have t4 : (j : Int) + 1 ≤ (j : Int) + 1 + (n : Int) := by omega
                  have t5 : (j : Int) + 1 + (n : Int) ≤ (rest.size : Int) := by omega
                  have t6 : (j : Int) + 1 + (n : Int) + 2 ≤ (rest.size : Int) := by omega
                  have t7 : (0 : Int) ≤ (j : Int) + 1 + (n : Int) + 2 := by omega
                  have t8 : (0 : Int) ≤ (j : Int) + 1 := by omega
                  obtain ⟨i0, i1, i2, i3, i4, if0, il⟩ := (unhide I3).cells
                  dsimp only at i0 i1 i2 i3 i4
                  have I8 := hide ((unhide I3).data (rest.extract (j + 1) (j + 1 + n)))
                  have C8 := hide ((unhide C3).setCell (p := ⟨w1.heap.size, 2, none⟩) (Nat.le_refl _) (.string (rest.extract (j + 1) (j + 1 + n))))
                  go_upto_region 23 with (go_at_call 58; refine (l1In_any _ _ _ _).mono ?_; rintro e w7 ⟨rfl, hw7⟩; rw [hw7]; clear hw7 w7)
                  generalize w5.setCell ⟨w1.heap.size, 2, none⟩ (.string (rest.extract (j + 1) (j + 1 + n))) = w8 at I8 C8 ⊢
                  clear i0 i1 i2 i3 i4 if0 il I3 C3 BB
                  have O8 := hide (own_below (unhide O1) (unhide C8) (Nat.le_refl _))
                  have B8 := hide ((unhide B1).trans ((unhide C8).mono hz1))
                  have hz8 := (unhide B8).size
                  obtain ⟨i0, i1, i2, i3, i4, if0, il⟩ := (unhide I8).cells
                  dsimp only at i0 i1 i2 i3 i4
                  clear I8 C8 O1 B1
                  go_wp2_with (at_builtin; go_loud (refine wpList_append_own _ rfl _ _ 33 rfl w.heap.size 35 i0_ _ 5 56 Tryz.underlying33 (unhide HI) (unhide HZ0) (unhide HZ1) (unhide HZ2) rfl (by decide) _ _ _ rfl ((unhide O8).alloc _) ⟨w8.heap.size, 0, none⟩ 1 1 (cellsOf ⟨y1, z2, rest.extract (j + 1) (j + 1 + n), 0, z4⟩) rfl rfl ?c1 ?c2 ?c3 ?c4 ?c5 ?_))
                  case c1 => exact news_cells w8 ⟨y1, z2, rest.extract (j + 1) (j + 1 + n), 0, z4⟩ _
                  case c2 => exact news_one _
                  case c3 => unfold maxLen; omega
                  case c4 => omega
                  case c5 => simp; omega
                  intro v' w9 hown' hgrow _
                  have O9 : Hid (w9.ownsRow w.heap.size 35 5 v' (its ++ [(⟨y1, z2, rest.extract (j + 1) (j + 1 + n), 0, z4⟩ : Itm)]).length (flat (its ++ [⟨y1, z2, rest.extract (j + 1) (j + 1 + n), 0, z4⟩]))) := own_snoc hown' rfl
                  have B9 := hide (((unhide B8).alloc (by omega) _).grown hgrow (by simp; omega) (own_block (unhide O8)))
                  clear hown' hgrow i0 i1 i2 i3 i4 if0 il
                  go_wp2
                  go_roundw
                  case rel => exact ⟨_, _, rfl, by rw [ByteArray.size_extract]; omega, by rw [List.length_append]; simp; omega, HN, IS, O9, B9⟩
                  case measure => simp [strLen2]; omega
          · have HN := hide (ten_skip (unhide hno) hjl hc)
            rw [decide_eq_false hc] at hb10
            clear hc
            go_wp2
            go_round
            case rel => exact ⟨j + 1, by omega, by go_num, HN⟩
            case measure => simp [intOf]; omega
        · obtain rfl : j = rest.size := by omega
          have hR := hide (mi_none (unhide hmi) (ten_end (unhide hno) rfl) (.inr (bl_len rest).symm))
          go_wp2
          all_goals
            go_ret2
            exact md_fail (unhide hbel) (unhide hR)
    · have h61 : ¬ (its.length : Int) ≤ 60 := by omega
      have HF : Hid (∀ L, Reads s token L → its = L) := fun L hL => by
        have := hL.len
        rcases unhide hmi L hL with h | ⟨x, L', h, _⟩
        · exact h.1
        · rw [h, List.length_append] at this; omega
      have HAT := hide (own_at (unhide hown))
      have HVT := hide (Vals.spec_any va vc its token wr (unhide HAT) (by omega) (unhide hits).fit)
      obtain ⟨hE1, hE2⟩ := mi_end (unhide HF) (unhide hits).can
      generalize vtR its token = VR at HVT hE1 hE2
      obtain ⟨vs, vk⟩ := VR
      dsimp only at HVT hE1 hE2
      unfold vtV at HVT
      have HE1 := hide hE1
      have HE2 := hide hE2
      clear hE1 hE2 HF HAT
      go_wp2_with fail
      refine (unhide HVT).mono ?_
      rintro e wv ⟨rfl, hbv⟩
      have BV := hide ((unhide hbel).trans (hbv.mono (unhide hbel).size))
      have OV := hide (own_below (unhide hown) hbv (Nat.le_refl _))
      clear hbv HVT
      cases vk
      · have hR := hide (unhide HE2 (by simp))
        clear HE1 HE2
        go_wp2
        all_goals
          go_ret2
          exact md_fail (unhide BV) (unhide hR)
      · by_cases hq : vs = s
        · have hR := hide (unhide HE1 ⟨rfl, hq⟩)
          have hq' := str_eq hq
          clear HE1 HE2 hq
          go_wp2
          go_ret2
          exact md_ok (unhide OV) (unhide BV) (unhide hR)
        · have hR := hide (unhide HE2 (fun h => hq h.2))
          have hq' := str_ne hq
          clear HE1 HE2 hq
          go_wp2
          all_goals
            go_ret2
            exact md_fail (unhide BV) (unhide hR)
end Rd
end Go.Proofs.YtghckjmpcokhcaaGreatDoor
