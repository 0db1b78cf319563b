/-
  A cluster in memory; contracts of the law files' helpers over clusters: szCluster, toCluster, eqCluster.
-/
import Derived.Test.YthgcfklfpllgnaaDoorZ7
import Derived.Test.YthgcfklfpllgnaaDoorZ8
import Derived.Test.YthgcfklfpllgnaaDoorZ4
import Derived.Test.YthgcfklfpllgnaaDoorRows
import Derived.Deep.RegionWith
namespace Go.Proofs.YthgcfklfpllgnaaDoor
namespace Clus
open Go.RowKit Base
set_option linter.unusedVariables false

structure Cl where
  now : Int
  nx : Int
  lim : Int
  lost : Int
  na : Option Addr
  nc : Nat
  ns : List Nodes.D
  ca : Option Addr
  cc : Nat
  cs : List Nodes.D
  pa : Option Addr
  pc : Nat
  ps : List Pls.Pl
def plain (c : Cl) : CC := ⟨c.now, c.nx, c.lim, c.lost, c.ns, c.cs, c.ps.map Pls.core⟩
def ClAt (w : World) (c : Cl) : Prop := Nodes.LAt w c.na c.ns ∧ Nodes.LAt w c.ca c.cs ∧ Pls.LsAt w c.pa c.ps
theorem ClAt.below {w w' : World} {c : Cl} {B : Nat} (h : ClAt w c) (hb : Below B w w') (hB : w.heap.size ≤ B) : ClAt w' c := ⟨h.1.below hb hB, h.2.1.below hb hB, h.2.2.below hb hB⟩
structure Fits (c : Cl) : Prop where
  nl : c.ns.length ≤ maxLen
  nf : ∀ x ∈ c.ns, Nodes.Fits x
  nk : c.ns.length ≤ c.nc
  cl : c.cs.length ≤ maxLen
  cf : ∀ x ∈ c.cs, Nodes.Fits x
  ck : c.cs.length ≤ c.cc
  pl : c.ps.length ≤ maxLen
  pf : ∀ x ∈ c.ps, Pls.Fits x
  pk : c.ps.length ≤ c.pc
def szC (c : Cl) (left : Int) : Int := if Nodes.szL c.ns left < 0 then -1 else if Nodes.szL c.cs (Nodes.szL c.ns left) < 0 then -1 else Pls.szLs c.ps (Nodes.szL c.cs (Nodes.szL c.ns left))
structure Small (c : Cl) : Prop where
  sn : c.ns.length ≤ 1048576
  sc : c.cs.length ≤ 1048576
  sp : c.ps.length ≤ 1048576
  si : ∀ x ∈ c.ps, x.its.length ≤ 1048576
theorem szC_small {c : Cl} (h : ¬ szC c 1048576 < 0) : Small c := by
  unfold szC at h
  have b0 := Nodes.szL_bd c.ns 1048576 (by omega)
  split at h
  · omega
  · rename_i h1
    have l1 := Nodes.szL_len h1
    have b1 := Nodes.szL_bd c.cs (Nodes.szL c.ns 1048576) (by omega)
    split at h
    · omega
    · rename_i h2
      have l2 := Nodes.szL_len h2
      obtain ⟨l3, l4⟩ := Pls.szLs_len h
      exact ⟨by omega, by omega, by omega, fun x hx => by have := (l4 x hx).2; omega⟩
theorem szC_bd (c : Cl) : -1 ≤ szC c 1048576 := by
  unfold szC
  have b0 := Nodes.szL_bd c.ns 1048576 (by omega)
  split
  · omega
  · have b1 := Nodes.szL_bd c.cs (Nodes.szL c.ns 1048576) (by omega)
    split
    · omega
    · have := Pls.szLs_bd c.ps (Nodes.szL c.cs (Nodes.szL c.ns 1048576)) (by omega)
      omega

/-- A cluster that a call has laid itself, every block apart. -/
structure CR (w : World) (b1 b2 b3 : Nat) (ns cs : List Nodes.D) (L : List Pls.Pl) : Prop where
  n : w.rowIs b1 42 (ns.length * 2) (Nodes.icell ns)
  c : w.rowIs b2 42 (cs.length * 2) (Nodes.icell cs)
  p : Pls.RAt w b3 L
  b12 : b1 < b2
  b23 : b2 < b3
theorem CR.below {w w' : World} {b1 b2 b3 : Nat} {ns cs : List Nodes.D} {L : List Pls.Pl} {B : Nat} (h : CR w b1 b2 b3 ns cs L) (hb : Below B w w') (hB : w.heap.size ≤ B) : CR w' b1 b2 b3 ns cs L :=
  ⟨h.n.of_block (hb.block _ (Nat.lt_of_lt_of_le h.n.lt hB)), h.c.of_block (hb.block _ (Nat.lt_of_lt_of_le h.c.lt hB)), h.p.below hb hB, h.b12, h.b23⟩

set_option maxRecDepth 10000 in
set_option maxHeartbeats 1000000 in
/-- Two clusters that are alike. -/
theorem eq_same (c d : Cl) (w : World) (hc : ClAt w c) (hd : ClAt w d) (he : plain c = plain d) (hs : Small c) :
    Calls Tryd.prog 8 #[.agg #[.int .i64 c.now, .int .i64 c.nx, .int .i64 c.lim, .int .i64 c.lost, .slice c.na c.ns.length c.nc, .slice c.ca c.cs.length c.cc, .slice c.pa c.ps.length c.pc], .agg #[.int .i64 d.now, .int .i64 d.nx, .int .i64 d.lim, .int .i64 d.lost, .slice d.na d.ns.length d.nc, .slice d.ca d.cs.length d.cc, .slice d.pa d.ps.length d.pc]] w fun e w' => e = .returned (.bool true) ∧ Below w.heap.size w w' := by
  obtain ⟨now, nx, lim, lost, na, nc, ns, ca, cc, cs, pa, pc, ps⟩ := c
  obtain ⟨now', nx', lim', lost', na', nc', ns', ca', cc', cs', pa', pc', ps'⟩ := d
  simp only [plain, CC.mk.injEq] at he
  obtain ⟨rfl, rfl, rfl, rfl, rfl, rfl, hps⟩ := he
  obtain ⟨n1, n2, n3, n4⟩ := hs
  dsimp only at n1 n2 n3 n4 ⊢
  have hle : ps'.length = ps.length := (Pls.map_len hps).symm
  rw [hle]
  have m1 : ns.length ≤ maxLen := by unfold maxLen; omega
  have m2 : cs.length ≤ maxLen := by unfold maxLen; omega
  have C1 := hide (fun w' (hb : Below w.heap.size w w') => Nodes.eq_same na na' nc nc' ns w' (hc.1.below hb (Nat.le_refl _)) (hd.1.below hb (Nat.le_refl _)) m1)
  have C2 := hide (fun w' (hb : Below w.heap.size w w') => Nodes.eq_same ca ca' cc cc' cs w' (hc.2.1.below hb (Nat.le_refl _)) (hd.2.1.below hb (Nat.le_refl _)) m2)
  have C3 := hide (fun w' (hb : Below w.heap.size w w') => Pls.eqs_same pa pa' pc pc' ps.length ps ps' w' (hc.2.2.below hb (Nat.le_refl _)) (hd.2.2.below hb (Nat.le_refl _)) hps rfl n3 n4)
  clear hc hd hps hle n4 m1 m2
  go_enter Tryd.func8, Tryd.ntmps8
  go_wp2_with fail
  refine (unhide C1 _ (bel2 w _ _)).mono ?_
  rintro e w1 ⟨rfl, hb1⟩
  have B1 := hide ((bel2 w _ _).trans (hb1.mono (by simp; omega)))
  have x1 := fun o => hb1.cell (p := ⟨w.heap.size, o, none⟩) (by simp; omega)
  have y1 := fun o => hb1.cell (p := ⟨w.heap.size + 1, o, none⟩) (by simp)
  have z1 : w.heap.size + 2 ≤ w1.heap.size := by have := hb1.size; simp at this; omega
  clear hb1
  go_wp2_with fail
  refine (unhide C2 _ (unhide B1)).mono ?_
  rintro e w2 ⟨rfl, hb2⟩
  have B2 := hide ((unhide B1).trans (hb2.mono (unhide B1).size))
  have x2 := fun o => (hb2.cell (p := ⟨w.heap.size, o, none⟩) (by show w.heap.size < w1.heap.size; omega)).trans (x1 o)
  have y2 := fun o => (hb2.cell (p := ⟨w.heap.size + 1, o, none⟩) (by show w.heap.size + 1 < w1.heap.size; omega)).trans (y1 o)
  clear hb2 x1 y1
  go_wp2_with fail
  refine (unhide C3 _ (unhide B2)).mono ?_
  rintro e w3 ⟨rfl, hb3⟩
  have B3 := hide ((unhide B2).trans (hb3.mono (unhide B2).size))
  clear hb3 x2 y2
  go_wp2
  go_ret
  exact ⟨rfl, unhide B3⟩
end Clus
end Go.Proofs.YthgcfklfpllgnaaDoor
/-
  The contract of the model's l1Number, for every int.
-/
namespace Go.Proofs.YthgcfklfpllgnaaDoor
namespace Num
open Go.RowKit Base GoodKey

end Num
end Go.Proofs.YthgcfklfpllgnaaDoor
/-
  Contracts of the model's l2Item, l2Charge, l2All and GoodStore: they answer by plain functions of the fields, for every store whose items lie in memory.
-/
namespace Go.Proofs.YthgcfklfpllgnaaDoor
namespace Store
open Go.RowKit Base GoodKey Items
set_option linter.unusedVariables false

end Store
end Go.Proofs.YthgcfklfpllgnaaDoor
