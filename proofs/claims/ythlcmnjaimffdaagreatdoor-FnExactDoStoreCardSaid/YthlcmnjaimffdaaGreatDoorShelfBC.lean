/-
  The program's answerTo and do: a command at a shelf.
-/
import Derived.Test.YthlcmnjaimffdaaGreatDoorShelfAQ
import Derived.Test.YthlcmnjaimffdaaGreatDoorShelfRF
import Derived.Defers
import Derived.Recover
import Derived.WalkKit
import Derived.Deep.DeepCutAuto
import Derived.LaidEql
import Derived.Test.YthlcmnjaimffdaaGreatDoorChecked
namespace Go.Proofs.YthlcmnjaimffdaaGreatDoor
namespace Shelf
open Go.RowKit Base Items Keep Own Chain Store GoodKey NumText
set_option linter.unusedVariables false

theorem touchO_nx (nx : Int) (its : List Itm) (now : Int) (key : ByteArray) (x : Int) : (touchO nx its now key x).nx = nx := by unfold touchO; split <;> rfl
theorem touchO_lost (nx : Int) (its : List Itm) (now : Int) (key : ByteArray) (x : Int) : (touchO nx its now key x).lost = 0 := by unfold touchO; split <;> rfl
theorem plainO_nx (nx : Int) (its : List Itm) (nm : List UInt8) : (plainO nx its nm).nx = nx := by
  unfold plainO
  split
  · rfl
  · split <;> rfl
theorem plainO_lost (nx : Int) (its : List Itm) (nm : List UInt8) : (plainO nx its nm).lost = 0 := by
  unfold plainO
  split
  · rfl
  · split <;> rfl

set_option maxRecDepth 10000 in
set_option maxHeartbeats 8000000 in
theorem answer_shelf (G : List (Nat × Obj)) (w0 w : World) (hb : Nat) (lim nx lost : Int) (its : List Itm) (now : Int) (nm : ByteArray) (kb ko kc : Nat) (ks : List ByteArray) (f x n : Int) (dt : ByteArray) (q : Bool) (p : Addr) (hs : Sh G w0 w hb lim nx lost its) (hF : FullIs w0 p) (hok : TellOk (its, ByteArray.empty) 0) (hv : Count.Vars w0)
    (hkb : kb < w0.heap.size) (hkc : ∀ i, i < ks.length → w0.cell? ⟨kb, ko + i, none⟩ = some (.string (ks.getD i ByteArray.empty))) (hkl : ks.length ≤ 10) (hks : ∀ s ∈ ks, s.size ≤ 30) (hk0 : 2 ≤ Kind.kindN nm.toList ∧ Kind.kindN nm.toList ≤ 6 → 0 < ks.length)
    (hdt : dt.size ≤ 100) (hl : its.length ≤ 60) (hlim : 0 ≤ lim ∧ lim ≤ 10000) (hnx : 1 ≤ nx ∧ nx ≤ 1000000000) (hlo : 0 ≤ lost ∧ lost ≤ 500) (hnow : 0 ≤ now ∧ now ≤ 1000000000) (hx : 0 ≤ x ∧ x ≤ 1000000000) (hn : (Lit.int .i64 n).wf = true) :
    Calls Tryz.prog 59 #[.pointer (some ⟨hb, 0, none⟩), .int .i64 now, .agg #[.string nm, .slice (some ⟨kb, ko, none⟩) ks.length kc, .int .i64 f, .int .i64 x, .int .i64 n, .string dt, .bool q]] w fun e w' =>
      AnsEnd p (ansO lim nx its now nm.toList ks f x n dt).ans e ∧ Sh G w0 w' hb lim (ansO lim nx its now nm.toList ks f x n dt).nx (lost + (ansO lim nx its now nm.toList ks f x n dt).lost) (ansO lim nx its now nm.toList ks f x n dt).its := by
  have HS := hide hs
  have hkd := Kind.kindN_bd nm.toList
  have HKD := hide (fun w => Kind.impl_any nm w)
  have HAO : Hid (ansO lim nx its now nm.toList ks f x n dt = if Kind.kindN nm.toList = 1 then tellO nx its nm.toList ks else
    if Kind.kindN nm.toList = 2 then setO lim nx its now nm.toList (ks.getD 0 ByteArray.empty) f x n dt else
    if Kind.kindN nm.toList = 3 then setO lim nx its now nm.toList (ks.getD 0 ByteArray.empty) f x n dt else
    if Kind.kindN nm.toList = 4 then countO lim nx its nm.toList (ks.getD 0 ByteArray.empty) n else
    if Kind.kindN nm.toList = 5 then touchO nx its now (ks.getD 0 ByteArray.empty) x else
    if Kind.kindN nm.toList = 6 then removeO nx its (ks.getD 0 ByteArray.empty) else
    plainO nx its nm.toList) := rfl
  have hk1 : 0 < ks.length → w0.cell? ⟨kb, ko, none⟩ = some (.string (ks.getD 0 ByteArray.empty)) ∧ (ks.getD 0 ByteArray.empty).size ≤ 30 := fun h => by
    have := hkc 0 h
    rw [Nat.add_zero] at this
    exact ⟨this, hks _ (by rw [List.getD_eq_getElem?_getD, List.getElem?_eq_getElem h]; exact List.getElem_mem _)⟩
  have HTL := hide (fun w1 (h : Sh G w0 w1 hb lim nx lost its) tk => tell_shelf G w0 w1 hb lim nx lost its kb ko kc ks tk h hok hv hkb hkc (by omega) (fun s hs => by have := hks s hs; omega))
  have hck : ∀ w1, Sh G w0 w1 hb lim nx lost its → 0 < ks.length → w1.cell? ⟨kb, ko, none⟩ = some (.string (ks.getD 0 ByteArray.empty)) := fun w1 h h0 => (h.bel.cell (p := ⟨kb, ko, none⟩) hkb).trans (hk1 h0).1
  have HST := hide (fun w1 (h : Sh G w0 w1 hb lim nx lost its) (h0 : 0 < ks.length) => set_shelf G w0 w1 hb lim nx lost its now nm kb ko kc ks.length (ks.getD 0 ByteArray.empty) f x n dt q p h hF hkb (hk1 h0).1 h0 (hk1 h0).2 hdt hl hlim hnx hlo hnow hx)
  have HCT := hide (fun w1 (h : Sh G w0 w1 hb lim nx lost its) (h0 : 0 < ks.length) => count_shelf G w0 w1 hb lim nx lost its nm kb ko kc ks.length (ks.getD 0 ByteArray.empty) f x n dt q p h hF hv hkb (hk1 h0).1 h0 (hk1 h0).2 hl hlim hnx hlo hn)
  have HTC := hide (fun w1 (h : Sh G w0 w1 hb lim nx lost its) (h0 : 0 < ks.length) => sh_touch h now (ks.getD 0 ByteArray.empty) x hl (by have := (hk1 h0).2; unfold maxLen; omega))
  have HRM := hide (fun w1 (h : Sh G w0 w1 hb lim nx lost its) (h0 : 0 < ks.length) => sh_remove h (ks.getD 0 ByteArray.empty) hl (by have := (hk1 h0).2; unfold maxLen; omega))
  have HPL := hide (fun w1 (h : Sh G w0 w1 hb lim nx lost its) => sh_plain h nm)
  have HUN := hide (fun w1 => untilOf_same now x w1 hnow hx)
  have HCK := hide hck
  have hkbw : kb < w.heap.size := Nat.lt_of_lt_of_le hkb hs.bel.size
  generalize ks.getD 0 ByteArray.empty = key at HAO HST HCT HTC HRM HCK
  generalize ansO lim nx its now nm.toList ks f x n dt = O at HAO ⊢
  generalize hK : Kind.kindN nm.toList = K at HAO HKD hk0 hkd
  have HKN := hide hK
  clear hs hok hv hkc hks hk1 hck hK hn
  obtain rfl | rfl | rfl | rfl | rfl | rfl | rfl | rfl : K = 0 ∨ K = 1 ∨ K = 2 ∨ K = 3 ∨ K = 4 ∨ K = 5 ∨ K = 6 ∨ K = 7 := by omega
  · have hE : O = plainO nx its nm.toList := unhide HAO
    subst hE
    clear HAO hk0 hkd
    go_enter Tryz.func59, Tryz.ntmps59
    go_wp2_with fail
    refine (unhide HKD _).mono ?_
    rintro e w1 ⟨rfl, hw1⟩
    subst hw1
    go_wp2_with fail
    refine (unhide HPL _ ((unhide HS).below (bel1 w _))).mono ?_
    rintro e w2 ⟨rfl, hs2⟩
    have HS2 := hide hs2
    clear hs2
    go_wp2
    go_ret
    exact ⟨.inl rfl, by simpa [tellO, touchO_nx, touchO_lost, removeO, plainO_nx, plainO_lost] using unhide HS2⟩
  · have hE : O = tellO nx its nm.toList ks := unhide HAO
    subst hE
    clear HAO hk0 hkd
    go_enter Tryz.func59, Tryz.ntmps59
    go_wp2_with fail
    refine (unhide HKD _).mono ?_
    rintro e w1 ⟨rfl, hw1⟩
    subst hw1
    go_wp2_with fail
    refine (unhide HTL _ ((unhide HS).below (bel1 w _)) _).mono ?_
    rintro e w2 ⟨rfl, hs2⟩
    have HS2 := hide hs2
    clear hs2
    go_wp2
    go_ret
    exact ⟨.inl rfl, by simpa [tellO, touchO_nx, touchO_lost, removeO, plainO_nx, plainO_lost] using unhide HS2⟩
  · have hE : O = setO lim nx its now nm.toList key f x n dt := unhide HAO
    subst hE
    have h0 := hk0 (by omega)
    have hckw := unhide HCK _ (unhide HS) h0
    have hnl : (0 : Int) < (ks.length : Int) := by omega
    clear HAO hk0 hkd
    go_enter Tryz.func59, Tryz.ntmps59
    go_wp2_with fail
    refine (unhide HKD _).mono ?_
    rintro e w1 ⟨rfl, hw1⟩
    subst hw1
    go_wp2_with fail
    refine (unhide HST _ ((unhide HS).below (bel1 w _)) h0).mono ?_
    rintro e w2 ⟨he, hs2⟩
    have HS2 := hide hs2
    clear hs2
    rcases he with rfl | ⟨hfull, rfl⟩
    · go_wp2
      go_ret
      exact ⟨.inl rfl, by simpa [tellO, touchO_nx, touchO_lost, removeO, plainO_nx, plainO_lost] using unhide HS2⟩
    · have HFL := hide hfull
      clear hfull
      go_wp2
      exact ⟨rfl, .inr ⟨unhide HFL, rfl⟩, by simpa [tellO, touchO_nx, touchO_lost, removeO, plainO_nx, plainO_lost] using unhide HS2⟩
  · have hE : O = setO lim nx its now nm.toList key f x n dt := unhide HAO
    subst hE
    have h0 := hk0 (by omega)
    have hckw := unhide HCK _ (unhide HS) h0
    have hnl : (0 : Int) < (ks.length : Int) := by omega
    clear HAO hk0 hkd
    go_enter Tryz.func59, Tryz.ntmps59
    go_wp2_with fail
    refine (unhide HKD _).mono ?_
    rintro e w1 ⟨rfl, hw1⟩
    subst hw1
    go_wp2_with fail
    refine (unhide HST _ ((unhide HS).below (bel1 w _)) h0).mono ?_
    rintro e w2 ⟨he, hs2⟩
    have HS2 := hide hs2
    clear hs2
    rcases he with rfl | ⟨hfull, rfl⟩
    · go_wp2
      go_ret
      exact ⟨.inl rfl, by simpa [tellO, touchO_nx, touchO_lost, removeO, plainO_nx, plainO_lost] using unhide HS2⟩
    · have HFL := hide hfull
      clear hfull
      go_wp2
      exact ⟨rfl, .inr ⟨unhide HFL, rfl⟩, by simpa [tellO, touchO_nx, touchO_lost, removeO, plainO_nx, plainO_lost] using unhide HS2⟩
  · have hE : O = countO lim nx its nm.toList key n := unhide HAO
    subst hE
    have h0 := hk0 (by omega)
    have hckw := unhide HCK _ (unhide HS) h0
    have hnl : (0 : Int) < (ks.length : Int) := by omega
    clear HAO hk0 hkd
    go_enter Tryz.func59, Tryz.ntmps59
    go_wp2_with fail
    refine (unhide HKD _).mono ?_
    rintro e w1 ⟨rfl, hw1⟩
    subst hw1
    go_wp2_with fail
    refine (unhide HCT _ ((unhide HS).below (bel1 w _)) h0).mono ?_
    rintro e w2 ⟨he, hs2⟩
    have HS2 := hide hs2
    clear hs2
    rcases he with rfl | ⟨hfull, rfl⟩
    · go_wp2
      go_ret
      exact ⟨.inl rfl, by simpa [tellO, touchO_nx, touchO_lost, removeO, plainO_nx, plainO_lost] using unhide HS2⟩
    · have HFL := hide hfull
      clear hfull
      go_wp2
      exact ⟨rfl, .inr ⟨unhide HFL, rfl⟩, by simpa [tellO, touchO_nx, touchO_lost, removeO, plainO_nx, plainO_lost] using unhide HS2⟩
  · have hE : O = touchO nx its now key x := unhide HAO
    subst hE
    have h0 := hk0 (by omega)
    have hckw := unhide HCK _ (unhide HS) h0
    have hnl : (0 : Int) < (ks.length : Int) := by omega
    clear HAO hk0 hkd
    have HTU := hide (unhide HTC)
    have hTn := hide (⟨touchO_nx nx its now key x, touchO_lost nx its now key x⟩ : (touchO nx its now key x).nx = nx ∧ (touchO nx its now key x).lost = 0)
    generalize untilR now x = u at HTU HUN
    generalize touchO nx its now key x = T at HTU hTn ⊢
    go_enter Tryz.func59, Tryz.ntmps59
    go_wp2_with fail
    refine (unhide HKD _).mono ?_
    rintro e w1 ⟨rfl, hw1⟩
    subst hw1
    go_wp2_with fail
    go_region_with (first | (go_at_call 77; refine (unhide HUN _).mono ?_; rintro e w2 ⟨rfl, rfl⟩) | (go_at_call 76; refine (unhide HTU _ ((unhide HS).below (bel1 w _).drew) h0).mono ?_; rintro e w3 ⟨rfl, hs3⟩; have HS3 := hide hs3))
    all_goals
      go_wp2
      go_ret
      exact ⟨.inl rfl, by rw [(unhide hTn).1, (unhide hTn).2]; simpa using unhide HS3⟩
  · have hE : O = removeO nx its key := unhide HAO
    subst hE
    have h0 := hk0 (by omega)
    have hckw := unhide HCK _ (unhide HS) h0
    have hnl : (0 : Int) < (ks.length : Int) := by omega
    clear HAO hk0 hkd
    go_enter Tryz.func59, Tryz.ntmps59
    go_wp2_with fail
    refine (unhide HKD _).mono ?_
    rintro e w1 ⟨rfl, hw1⟩
    subst hw1
    go_wp2_with fail
    refine (unhide HRM _ ((unhide HS).below (bel1 w _)) h0).mono ?_
    rintro e w2 ⟨rfl, hs2⟩
    have HS2 := hide hs2
    clear hs2
    go_wp2
    go_ret
    exact ⟨.inl rfl, by simpa [tellO, touchO_nx, touchO_lost, removeO, plainO_nx, plainO_lost] using unhide HS2⟩
  · have hE : O = plainO nx its nm.toList := unhide HAO
    subst hE
    clear HAO hk0 hkd
    go_enter Tryz.func59, Tryz.ntmps59
    go_wp2_with fail
    refine (unhide HKD _).mono ?_
    rintro e w1 ⟨rfl, hw1⟩
    subst hw1
    go_wp2_with fail
    refine (unhide HPL _ ((unhide HS).below (bel1 w _))).mono ?_
    rintro e w2 ⟨rfl, hs2⟩
    have HS2 := hide hs2
    clear hs2
    go_wp2
    go_ret
    exact ⟨.inl rfl, by simpa [tellO, touchO_nx, touchO_lost, removeO, plainO_nx, plainO_lost] using unhide HS2⟩
end Shelf
end Go.Proofs.YthlcmnjaimffdaaGreatDoor
/-
  The program's gaveUp: whether what is done gives up.
-/
namespace Go.Proofs.YthlcmnjaimffdaaGreatDoor
namespace Shelf
open Go.RowKit Base Keep
set_option linter.unusedVariables false

theorem cellOf {w : World} {b : Nat} {v : Value} {t : TypeId} (h : w.heap[b]? = some (.cells #[v] t (0, 0))) : w.cell? ⟨b, 0, none⟩ = some v := by simp [World.cell?, h]
theorem frozenOf {w : World} {b : Nat} {cs : Array Value} {t : TypeId} (h : w.heap[b]? = some (.cells cs t (0, 0))) : w.frozen? ⟨b, 0, none⟩ = false := by simp [World.frozen?, h]
theorem nil_no (p : Addr) (w : World) : (binOp BinOp.eql 20 (.iface 155 (.pointer (some p))) .nilIface).run Tryz.prog w = .ok (.bool false) w := by kernel_rfl
theorem nil_yes (w : World) : (binOp BinOp.eql 20 .nilIface .nilIface).run Tryz.prog w = .ok (.bool true) w := by kernel_rfl
theorem infoP : (Tryz.prog.info? 155).map (·.comparable) = some true := by kernel_rfl
theorem infoE : (Tryz.prog.info? 157).isSome = true := by kernel_rfl
theorem same_yes {P : Program} {ti tp te : TypeId} {ms : Array (String × TypeId)} (p : Addr) (w : World) (h1 : (P.info? tp).map (·.comparable) = some true) (h3 : (P.info? te).isSome = true) (hi : P.underlying ti = some (.interface ms)) (hp : P.underlying tp = some (.pointer te)) :
    (binOp BinOp.eql ti (.iface tp (.pointer (some p))) (.iface tp (.pointer (some p)))).run P w = .ok (.bool true) w := by
  obtain ⟨i, h1, h2⟩ := Option.map_eq_some_iff.1 h1
  obtain ⟨j, h3⟩ := Option.isSome_iff_exists.1 h3
  exact run_eql_iface_ptr_same w p hi hp h1 h2 h3
theorem full_yes (p : Addr) (w : World) : (binOp BinOp.eql 20 (.iface 155 (.pointer (some p))) (.iface 155 (.pointer (some p)))).run Tryz.prog w = .ok (.bool true) w :=
  same_yes p w infoP infoE Tryz.underlying20 Tryz.underlying155
set_option maxRecDepth 10000 in
set_option maxHeartbeats 400000 in
theorem catch_full (b p : Addr) (w : World) (older : List PanicEntry) (hc : w.cell? b = some (.bool false)) (hz : w.frozen? b = false) (hF : FullIs w p) :
    CallsD Tryz.prog 72 #[.pointer (some b)] (.panicking ({ v := errV p, recovered := false } :: older)) w fun e u' w' =>
      e = .returned (.tuple #[]) ∧ u' = .panicking ({ v := errV p, recovered := true } :: older) ∧ w' = w.setCell b (.bool true) := by
  have hf := hF.cell
  unfold errV at hf ⊢
  have e1 := nil_no p
  have e2 := full_yes p
  have e3 : ∀ (x y : Operand) (w : World), (eqGuard BinOp.eql 20 x y (.iface 155 (.pointer (some p))) (.iface 155 (.pointer (some p)))).run Tryz.prog w = .ok () w := fun _ _ _ => rfl
  clear hF
  refine callsD_of_wpS Tryz.func72 rfl fun c₀ cs hu => ?_
  apply wpS_seq
  apply wpS_region
  simp [wpOpsS, go_sem, recoverD, hu, Tryz.ntmps72, Exit.thenS]
  have ht : (#[.pointer (some b)] ++ ((Array.replicate 9 undef).setIfInBounds 1 (.iface 155 (.pointer (some p)))).setIfInBounds 0 (.iface 155 (.pointer (some p))) : Array Value) = #[.pointer (some b), .iface 155 (.pointer (some p)), .iface 155 (.pointer (some p)), undef, undef, undef, undef, undef, undef, undef] := rfl
  rw [ht]
  clear ht
  refine wpS_of_wp ?_
  go_upto_region 4 with fail
  generalize hE : (Value.iface 155 (.pointer (some p))) = E at *
  go_wp2
  simp [bodyPostS, results, Tryz.results72]
set_option maxRecDepth 10000 in
theorem catch_idle (b : Addr) (w : World) :
    CallsD Tryz.prog 72 #[.pointer (some b)] .returning w fun e u' w' => e = .returned (.tuple #[]) ∧ u' = .returning ∧ w' = w := by
  have e1 := nil_yes
  refine callsD_of_wpS Tryz.func72 rfl fun c₀ cs hu => ?_
  apply wpS_seq
  apply wpS_region
  simp [wpOpsS, go_sem, recoverD, hu, Tryz.ntmps72, Exit.thenS]
  refine wpS_of_wp ?_
  go_wp2
  cases c₀
  simp_all [bodyPostS, results, Tryz.results72]
set_option maxRecDepth 10000 in
/-- gaveUp over what is done: it returns, or it gives up. -/
theorem gaveUp_any (f : Nat) (cap : Array Value) (w : World) (p : Addr) (Q : Bool → World → Prop)
    (hcf : ∀ w, (callFunc f cap).run Tryz.prog w = .ok (.enter f cap) w)
    (h : Calls Tryz.prog f cap (w.alloc (.cells #[.bool false] 4)) fun e w' => ((e = .returned (.tuple #[]) ∧ Q false w') ∨ (e = .panicked (fullP p) ∧ Q true w')) ∧ w'.heap[w.heap.size]? = some (.cells #[.bool false] 4 (0, 0)) ∧ FullIs w' p) :
    Calls Tryz.prog 57 #[.func (.func f) #[] cap] w fun e w' => ∃ full w1, e = .returned (.bool full) ∧ Q full w1 ∧ w' = w1.setCell ⟨w.heap.size, 0, none⟩ (.bool full) := by
  have hmf : ∀ (fn : Fn) (first cap : Array Value) (w : World), (Instr.makeFunc fn first cap).run Tryz.prog w = .ok (.func fn first cap) w := fun _ _ _ _ => rfl
  have HD := hide h
  clear h
  go_enter_defers Tryz.func57, Tryz.ntmps57
  go_wp2_with fail
  refine (unhide HD).mono ?_
  rintro e w1 ⟨he, hbx, hfu⟩
  have HB := hide hbx
  have HF := hide hfu
  have hc := frozenOf hbx
  have hd := cellOf hbx
  clear hbx hfu
  rcases he with ⟨rfl, hq⟩ | ⟨rfl, hq⟩
  · have HQ := hide hq
    clear hq
    go_wp2
    refine leaves_cons (f := 72) (args := #[.pointer (some ⟨w.heap.size, 0, none⟩)]) (by simp) (by simp [go_sem]) ?_
    refine (catch_idle ⟨w.heap.size, 0, none⟩ _).mono ?_
    rintro e u' w'' ⟨rfl, rfl, rfl⟩
    simp [Leaves, settle, results, Tryz.results57, go_sem, hd]
    exact ⟨w1, unhide HQ, rfl⟩
  · have HQ := hide hq
    clear hq
    unfold fullP
    go_wp2
    refine leaves_cons (f := 72) (args := #[.pointer (some ⟨w.heap.size, 0, none⟩)]) (by simp) (by simp [go_sem]) ?_
    refine (catch_full ⟨w.heap.size, 0, none⟩ p w1 [] hd hc (unhide HF)).mono ?_
    rintro e u' w'' ⟨rfl, rfl, rfl⟩
    simp [Leaves, settle, results, Tryz.results57, go_sem, hd]
    exact ⟨w1, unhide HQ, rfl⟩
end Shelf
end Go.Proofs.YthlcmnjaimffdaaGreatDoor
/-
  The program's gaveUp and do: a command at a shelf; what gives up is told as full.
-/
namespace Go.Proofs.YthlcmnjaimffdaaGreatDoor
namespace Shelf
open Go.RowKit Base Items Keep Own Chain Store GoodKey NumText
set_option linter.unusedVariables false

/-- Another block is kept: one made behind. -/
theorem Sh.guard {G : List (Nat × Obj)} {w0 w : World} {hb : Nat} {lim nx lost : Int} {its : List Itm} (h : Sh G w0 w hb lim nx lost its) (o : Obj) : Sh ((w.heap.size, o) :: G) w0 (w.alloc o) hb lim nx lost its := by
  obtain ⟨S, hs, hS0, hb0, hg⟩ := h
  refine ⟨S, hs.below (bel1 w o), fun b hm => ⟨(hS0 b hm).1, fun g hg' => ?_⟩, hb0.trans ((bel1 w o).mono hb0.size), fun g hg' => ?_⟩
  · rcases List.mem_cons.1 hg' with rfl | h1
    · have := hs.lt b hm
      show b ≠ w.heap.size
      omega
    · exact (hS0 b hm).2 g h1
  · rcases List.mem_cons.1 hg' with rfl | h1
    · exact heap_alloc_new w o
    · exact ((bel1 w o).block _ (lt_of_get (hg g h1))).trans (hg g h1)
/-- One of the kept blocks is written: it and the others are kept. -/
theorem Sh.put {G : List (Nat × Obj)} {w0 w : World} {hb : Nat} {lim nx lost : Int} {its : List Itm} {g : Nat} {v0 : Value} {ty : TypeId} (h : Sh ((g, .cells #[v0] ty) :: G) w0 w hb lim nx lost its) (v : Value) (hge : w0.heap.size ≤ g) (hG : ∀ x ∈ G, x.1 ≠ g) :
    Sh ((g, .cells #[v] ty) :: G) w0 (w.setCell ⟨g, 0, none⟩ v) hb lim nx lost its := by
  obtain ⟨S, hs, hS0, hb0, hgs⟩ := h
  have hk : Keeps [g] w (w.setCell ⟨g, 0, none⟩ v) := (Keeps.refl [g] w).setCell (.inl (by simp)) _
  refine ⟨S, hs.keep hk (fun b hm => by simp; exact (hS0 b hm).2 _ (List.Mem.head _)), fun b hm => ⟨(hS0 b hm).1, fun x hx => ?_⟩, hb0.setCell hge _, fun x hx => ?_⟩
  · rcases List.mem_cons.1 hx with rfl | h1
    · exact (hS0 b hm).2 (g, .cells #[v0] ty) (List.Mem.head _)
    · exact (hS0 b hm).2 x (List.Mem.tail _ h1)
  · rcases List.mem_cons.1 hx with rfl | h1
    · have h := hgs _ (List.Mem.head _)
      dsimp only at h
      simp [World.setCell, Array.getElem?_modify, h]
    · exact (hk.block _ (lt_of_get (hgs x (List.Mem.tail _ h1))) (by simp; exact hG x h1)).trans (hgs x (List.Mem.tail _ h1))
theorem mm0 {α : Type} {a : α} {l : List α} : a ∈ a :: l := List.Mem.head _
theorem mm1 {α : Type} {a b : α} {l : List α} : b ∈ a :: b :: l := List.Mem.tail _ (List.Mem.head _)
theorem mm2 {α : Type} {a b c : α} {l : List α} : c ∈ a :: b :: c :: l := List.Mem.tail _ mm1
theorem mm3 {α : Type} {a b c d : α} {l : List α} : d ∈ a :: b :: c :: d :: l := List.Mem.tail _ mm2
theorem mm4 {α : Type} {a b c d e : α} {l : List α} : e ∈ a :: b :: c :: d :: e :: l := List.Mem.tail _ mm3
theorem sub3 {α : Type} {a b c : α} {l : List α} (ha : a ∈ l) (hb : b ∈ l) (hc : c ∈ l) : ∀ y ∈ [a, b, c], y ∈ l := by
  intro y hy
  simp only [List.mem_cons, List.not_mem_nil, or_false] at hy
  rcases hy with rfl | rfl | rfl <;> assumption
theorem sub1 {α : Type} {a : α} {l : List α} (ha : a ∈ l) : ∀ y ∈ [a], y ∈ l := by
  intro y hy
  rw [List.mem_singleton.1 hy]; exact ha
theorem ne2 {a b : Nat × Obj} {g : Nat} (ha : a.1 ≠ g) (hb : b.1 ≠ g) : ∀ y ∈ [a, b], y.1 ≠ g := by
  intro y hy
  simp only [List.mem_cons, List.not_mem_nil, or_false] at hy
  rcases hy with rfl | rfl <;> assumption
theorem Sh.perm {G G' : List (Nat × Obj)} {w0 w : World} {hb : Nat} {lim nx lost : Int} {its : List Itm} (h : Sh G w0 w hb lim nx lost its) (hG : ∀ x ∈ G', x ∈ G) : Sh G' w0 w hb lim nx lost its := by
  obtain ⟨S, hs, hS0, hb0, hgs⟩ := h
  exact ⟨S, hs, fun b hm => ⟨(hS0 b hm).1, fun x hx => (hS0 b hm).2 x (hG x hx)⟩, hb0, fun x hx => hgs x (hG x hx)⟩
def Shx (w0 w : World) (hb : Nat) (lim nx lost : Int) (its : List Itm) : Prop := ∃ G, Sh G w0 w hb lim nx lost its
theorem cell_of_box {w : World} {b o : Nat} {cs : Array Value} {t : TypeId} {v : Value} (h : w.heap[b]? = some (.cells cs t (0, 0))) (hv : cs[o]? = some v) : w.cell? ⟨b, o, none⟩ = some v := by
  simp [World.cell?, h, hv]
theorem frozen_of_box {w : World} {b o : Nat} {cs : Array Value} {t : TypeId} (h : w.heap[b]? = some (.cells cs t (0, 0))) : w.frozen? ⟨b, o, none⟩ = false := by
  simp [World.frozen?, h]

/-- What is kept beside a command that is done. -/
abbrev boxH (hb : Nat) : Obj := .cells #[.pointer (some ⟨hb, 0, none⟩)] 52
abbrev boxN (now : Int) : Obj := .cells #[.int .i64 now] 3
abbrev boxA (t : ByteArray) : Obj := .cells #[.string t] 9
abbrev boxF : Obj := .cells #[.bool false] 4

set_option maxRecDepth 10000 in
set_option maxHeartbeats 2000000 in
/-- What do hands to gaveUp: the answer is laid, or it gives up. -/
theorem do1_shelf (G : List (Nat × Obj)) (w0 w : World) (hb : Nat) (lim nx lost : Int) (its : List Itm) (now : Int) (nm : ByteArray) (kb ko kc : Nat) (ks : List ByteArray) (f x n : Int) (dt : ByteArray) (q : Bool) (p : Addr) (bh bn bc ba : Nat)
    (O : Out) (hs : Sh G w0 w hb lim nx lost its) (hF : FullIs w0 p) (m1 : (bh, boxH hb) ∈ G) (m2 : (bn, boxN now) ∈ G) (m3 : (bc, cmdObj nm kb ko ks.length kc f x n dt q) ∈ G) (m4 : (ba, boxA ⟨#[]⟩) ∈ G) (ga : w0.heap.size ≤ ba)
    (hA : ∀ g1 w1, Sh g1 w0 w1 hb lim nx lost its → Calls Tryz.prog 59 #[.pointer (some ⟨hb, 0, none⟩), .int .i64 now, .agg #[.string nm, .slice (some ⟨kb, ko, none⟩) ks.length kc, .int .i64 f, .int .i64 x, .int .i64 n, .string dt, .bool q]] w1 fun e w' =>
      AnsEnd p O.ans e ∧ Sh g1 w0 w' hb lim O.nx (lost + O.lost) O.its) :
    Calls Tryz.prog 58 #[.pointer (some ⟨bh, 0, none⟩), .pointer (some ⟨bn, 0, none⟩), .pointer (some ⟨bc, 0, none⟩), .pointer (some ⟨ba, 0, none⟩)] w fun e w' =>
      (e = .returned (.tuple #[]) ∧ ∃ w1, Sh G w0 w1 hb lim O.nx (lost + O.lost) O.its ∧ w' = w1.setCell ⟨ba, 0, none⟩ (.string O.ans)) ∨ (e = .panicked (fullP p) ∧ O.ans = fullT ∧ Sh G w0 w' hb lim O.nx (lost + O.lost) O.its) := by
  have h1 := cell_of_box (o := 0) (hs.box _ m1) rfl
  have h2 := cell_of_box (o := 0) (hs.box _ m2) rfl
  have c0 := cell_of_box (o := 0) (hs.box _ m3) rfl
  have c1 := cell_of_box (o := 1) (hs.box _ m3) rfl
  have c2 := cell_of_box (o := 2) (hs.box _ m3) rfl
  have c3 := cell_of_box (o := 3) (hs.box _ m3) rfl
  have c4 := cell_of_box (o := 4) (hs.box _ m3) rfl
  have c5 := cell_of_box (o := 5) (hs.box _ m3) rfl
  have c6 := cell_of_box (o := 6) (hs.box _ m3) rfl
  have HA := hide (hA G w hs)
  have M4 := hide m4
  clear hA m1 m2 m3 m4 hs
  go_enter Tryz.func58, Tryz.ntmps58
  go_wp2_with fail
  refine (unhide HA).mono ?_
  rintro e w1 ⟨he, hs1⟩
  have ha := cell_of_box (o := 0) (hs1.box _ (unhide M4)) rfl
  have hz : w1.frozen? ⟨ba, 0, none⟩ = false := frozen_of_box (hs1.box _ (unhide M4))
  have HS1 := hide hs1
  clear hs1 h1 h2 c0 c1 c2 c3 c4 c5 c6
  rcases he with rfl | ⟨hfull, rfl⟩
  · go_wp2
    exact bodyPost_end (v := .tuple #[]) (by simp [results, Tryz.results58, go_sem]) rfl (.inl ⟨rfl, w1, unhide HS1, rfl⟩)
  · have HFL := hide hfull
    clear hfull
    go_wp2
    exact ⟨rfl, .inr ⟨rfl, unhide HFL, unhide HS1⟩⟩

theorem callF58 (cap : Array Value) (w : World) : (callFunc 58 cap).run Tryz.prog w = .ok (.enter 58 cap) w := by
  simp [go_sem]

set_option maxRecDepth 10000 in
set_option maxHeartbeats 2000000 in
theorem do_shelf (G : List (Nat × Obj)) (w0 w : World) (hb : Nat) (lim nx lost : Int) (its : List Itm) (now : Int) (nm : ByteArray) (kb ko kc : Nat) (ks : List ByteArray) (f x n : Int) (dt : ByteArray) (q : Bool) (p : Addr) (hs : Sh G w0 w hb lim nx lost its) (hF : FullIs w0 p) (hok : TellOk (its, ByteArray.empty) 0) (hv : Count.Vars w0)
    (hkb : kb < w0.heap.size) (hkc : ∀ i, i < ks.length → w0.cell? ⟨kb, ko + i, none⟩ = some (.string (ks.getD i ByteArray.empty))) (hcm : CmdOk (Kind.kindN nm.toList) ks f x n dt) (hl : its.length ≤ 60) (hlim : 0 ≤ lim ∧ lim ≤ 10000) (hnx : 1 ≤ nx ∧ nx ≤ 1000000000) (hlo : 0 ≤ lost ∧ lost ≤ 500) (hnow : 0 ≤ now ∧ now ≤ 1000000000) :
    Calls Tryz.prog 28 #[.pointer (some ⟨hb, 0, none⟩), .int .i64 now, .agg #[.string nm, .slice (some ⟨kb, ko, none⟩) ks.length kc, .int .i64 f, .int .i64 x, .int .i64 n, .string dt, .bool q]] w fun e w' =>
      e = .returned (.string (if q = true then ⟨#[]⟩ else (ansO lim nx its now nm.toList ks f x n dt).ans)) ∧ Shx w0 w' hb lim (ansO lim nx its now nm.toList ks f x n dt).nx (lost + (ansO lim nx its now nm.toList ks f x n dt).lost) (ansO lim nx its now nm.toList ks f x n dt).its := by
  obtain ⟨c1, c2, c3, c4, c5, c6, c7⟩ := hcm
  have hn : (Lit.int .i64 n).wf = true := by
    have e1 : IntKind.i64.min = -9223372036854775808 := rfl
    have e2 : IntKind.i64.max = 9223372036854775807 := rfl
    simp [Lit.wf]; omega
  have HA := hide (fun g1 w1 (h : Sh g1 w0 w1 hb lim nx lost its) => answer_shelf g1 w0 w1 hb lim nx lost its now nm kb ko kc ks f x n dt q p h hF hok hv hkb hkc c1 c2 c3 c4 hl hlim hnx hlo hnow c6 hn)
  generalize ansO lim nx its now nm.toList ks f x n dt = O at HA ⊢
  clear hok hv hkc c1 c2 c3 c4 c5 c6 c7 hn hl hlim hnx hlo hnow
  have hge := hs.bel.size
  have hs4 := ((((hs.guard (boxH hb)).guard (boxN now)).guard (cmdObj nm kb ko ks.length kc f x n dt q)).guard (boxA ⟨#[]⟩)).guard boxF
  simp only [World.size_alloc] at hs4
  have HD := hide (do1_shelf _ w0 _ hb lim nx lost its now nm kb ko kc ks f x n dt q p w.heap.size (w.heap.size + 1) (w.heap.size + 1 + 1) (w.heap.size + 1 + 1 + 1) O hs4 hF mm4 mm3 mm2 mm1 (by omega) (unhide HA))
  have HG := hide (gaveUp_any 58 #[.pointer (some ⟨w.heap.size, 0, none⟩), .pointer (some ⟨w.heap.size + 1, 0, none⟩), .pointer (some ⟨w.heap.size + 1 + 1, 0, none⟩), .pointer (some ⟨w.heap.size + 1 + 1 + 1, 0, none⟩)] ((((w.alloc (boxH hb)).alloc (boxN now)).alloc (cmdObj nm kb ko ks.length kc f x n dt q)).alloc (boxA ⟨#[]⟩)) p
    (fun full w' => ∃ t : ByteArray, (if full = true then fullT else t) = O.ans ∧ Sh [(w.heap.size + 1 + 1 + 1 + 1, boxF), (w.heap.size + 1 + 1 + 1, boxA t), (w.heap.size + 1 + 1, cmdObj nm kb ko ks.length kc f x n dt q)] w0 w' hb lim O.nx (lost + O.lost) O.its)
    (fun w => callF58 _ w) ((unhide HD).mono (by
      intro e w' h
      simp only [World.size_alloc]
      rcases h with ⟨rfl, w1, h1, rfl⟩ | ⟨rfl, h0, h1⟩
      · have h2 := (h1.perm (G' := [(w.heap.size + 1 + 1 + 1, boxA ⟨#[]⟩), (w.heap.size + 1 + 1 + 1 + 1, boxF), (w.heap.size + 1 + 1, cmdObj nm kb ko ks.length kc f x n dt q)]) (sub3 mm1 mm0 mm2)).put (.string O.ans) (by omega) (ne2 (by show w.heap.size + 1 + 1 + 1 + 1 ≠ _; omega) (by show w.heap.size + 1 + 1 ≠ _; omega))
        exact ⟨.inl ⟨rfl, O.ans, rfl, h2.perm (sub3 mm1 mm0 mm2)⟩, h2.box _ mm1, hF.below h2.bel⟩
      · exact ⟨.inr ⟨rfl, ⟨#[]⟩, h0.symm, h1.perm (sub3 mm0 mm1 mm2)⟩, h1.box _ mm0, hF.below h1.bel⟩)))
  simp only [World.size_alloc] at HG
  have hmf : ∀ (fn : Fn) (first cap : Array Value) (w : World), (Instr.makeFunc fn first cap).run Tryz.prog w = .ok (.func fn first cap) w := fun _ _ _ _ => rfl
  clear HA HD hs hs4
  unfold cmdObj boxH boxN boxA at HG
  go_enter Tryz.func28, Tryz.ntmps28
  go_wp2_with fail
  refine (unhide HG).mono ?_
  rintro e w' ⟨full, w1, rfl, ⟨t, ht, h1⟩, rfl⟩
  have h2 := h1.put (.bool full) (by omega) (ne2 (by show w.heap.size + 1 + 1 + 1 ≠ _; omega) (by show w.heap.size + 1 + 1 ≠ _; omega))
  generalize w1.setCell ⟨w.heap.size + 1 + 1 + 1 + 1, 0, none⟩ (.bool full) = w2 at h2 ⊢
  have c6 := cell_of_box (o := 6) (v := .bool q) (h2.box _ mm2) rfl
  have ca := cell_of_box (o := 0) (v := .string t) (h2.box _ mm1) rfl
  have fa := frozen_of_box (o := 0) (h2.box _ mm1)
  dsimp only at c6 ca fa
  have h3 := (h2.perm (G' := (w.heap.size + 1 + 1 + 1, .cells #[.string t] 9) :: []) (sub1 mm1)).put (.string fullT) (by omega) (by simp)
  have HT := hide ht
  have H2 := hide h2
  have H3 := hide h3
  clear h1 h2 h3 ht
  cases full
  · have hE : O.ans = t := (unhide HT).symm
    cases q
    all_goals
      go_wp2
      go_ret
      exact ⟨by first | rfl | (rw [hE]; rfl) | simp [hE], _, unhide H2⟩
  · have hE : O.ans = fullT := (unhide HT).symm
    unfold fullT at H3
    cases q
    all_goals
      go_wp2
      go_ret
      exact ⟨by first | rfl | (rw [hE]; rfl) | simp [hE, fullT], _, unhide H3⟩
end Shelf
end Go.Proofs.YthlcmnjaimffdaaGreatDoor
