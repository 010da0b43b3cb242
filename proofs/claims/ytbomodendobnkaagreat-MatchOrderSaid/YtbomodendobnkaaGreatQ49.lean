/- What came in: an Op, a row of them, a meaning, a row of strings. -/
import Derived.Test.YtbomodendobnkaaGreatQ13
import Derived.Test.YtbomodendobnkaaGreatRows
import Derived.Test.YtbomodendobnkaaGreatLaw
import Derived.SliceStrings
namespace Go.Proofs.YtbomodendobnkaaGreat
open Go.ChangeShapes Go.WideShapes Go.ChangeAt Go.RowKit Go.Deep

/-- an Op of the law's -/
structure Opv where
  k : Int
  at_ : Int
  to : Int
  pick : Int
  more : Int
  mkk : Int
  mnn : Int
  tx : ByteArray
def opc (o : Opv) : List Value := [.int .i64 o.k, .int .i64 o.at_, .int .i64 o.to, .int .i64 o.pick, .int .i64 o.more, .int .i64 o.mkk, .int .i64 o.mnn, .string o.tx]
def i64 (n : Int) : Prop := -9223372036854775808 ≤ n ∧ n ≤ 9223372036854775807
def OpBd (o : Opv) : Prop := i64 o.pick ∧ i64 o.at_ ∧ i64 o.to ∧ o.tx.size ≤ maxLen

section
variable {H : Type} {enc : TypeId × Value → H} {W : World}
theorem fieldsMean : ∃ fs : Array Field, Tryz.prog.underlying 146 = some (.struct fs)
    ∧ (fs[0]?).map (fun f => (f.type, f.offset)) = some (3, 0) ∧ (fs[1]?).map (fun f => (f.type, f.offset)) = some (3, 1) :=
  ⟨_, Tryz.underlying146, by kernel_rfl, by kernel_rfl⟩
theorem e_oneInt : Tryz.prog.cellsOf 3 = 1 := by kernel_rfl
theorem e_oneString : Tryz.prog.cellsOf 9 = 1 := by kernel_rfl
theorem twoMean : Tryz.prog.cellsOf 146 = 2 := by kernel_rfl
theorem e_bounds {n : Int} (h : (Lit.int .i64 n).wf = true) : i64 n := by
  simp [Lit.wf, show IntKind.i64.min = -9223372036854775808 by decide +kernel, show IntKind.i64.max = 9223372036854775807 by decide +kernel] at h
  exact h
set_option maxRecDepth 100000 in
theorem mean_cells {fuel : Nat} {cs : List Value} {x : DataW H × List MemPlace} (h : DataW.trod enc Tryz.prog W 0 (fun _ => true) true fuel 146 cs = some x) :
    ∃ (k n : Int), cs = [.int .i64 k, .int .i64 n] ∧ i64 k ∧ i64 n := by
  obtain ⟨fs, hu, f0, f1⟩ := fieldsMean
  obtain ⟨xs, m, hm, -, hl, hxl, hx⟩ := DataW.trod_struct hu h
  rw [twoMean] at hl
  simp only [Option.map_eq_some_iff, Prod.mk.injEq] at f0 f1
  obtain ⟨q0, e0, t0, o0⟩ := f0
  obtain ⟨q1, e1, t1, o1⟩ := f1
  have hsz : 2 ≤ fs.size := by
    have := (Array.getElem?_eq_some_iff.1 e1).1; omega
  have g := fun i (hi : i < 2) => List.getElem?_eq_getElem (l := xs) (i := i) (by omega)
  have h0 := (hx 0 q0 e0).trans (g 0 (by omega))
  have h1 := (hx 1 q1 e1).trans (g 1 (by omega))
  obtain ⟨c0, c1, rfl⟩ : ∃ c0 c1, cs = [c0, c1] := by
    match cs, hl with
    | [c0, c1], _ => exact ⟨_, _, rfl⟩
  rw [t0, o0, e_oneInt] at h0
  rw [t1, o1, e_oneInt] at h1
  simp only [List.drop, List.take_succ_cons, List.take_zero] at h0 h1
  obtain ⟨k, ek, -, wk⟩ := DataW.trod_int Tryz.underlying3 h0
  obtain ⟨n, en, -, wn⟩ := DataW.trod_int Tryz.underlying3 h1
  simp only [List.cons.injEq, and_true] at ek en
  subst ek en
  exact ⟨k, n, rfl, e_bounds wk, e_bounds wn⟩
set_option maxRecDepth 100000 in
theorem mean_open {base : Nat} {v : Value} {d : DataW H} {ps : List MemPlace} (hv : Value.okWide Tryz.prog W .any base 146 v) (h : DataW.Trod enc Tryz.prog W 0 (fun _ => true) true 146 v d ps) :
    ∃ k n : Int, v = .agg #[.int .i64 k, .int .i64 n] := by
  obtain ⟨cs, rfl, hs⟩ := okWide_struct (Tryz.underlying146) hv
  obtain ⟨fuel, hf⟩ := h
  obtain ⟨k, n, e, -, -⟩ := mean_cells hf
  refine ⟨k, n, ?_⟩
  obtain ⟨l⟩ := cs
  simp [Value.cells] at e
  subst e
  rfl
/-- a row of Ops -/
def CameOps (w : World) (A : Option Addr) (n : Nat) (Z : Nat → Opv) : Prop :=
  (∀ i, OpBd (Z i)) ∧ (0 < n → ∃ b off, A = some ⟨b, off, none⟩ ∧ b < w.heap.size ∧ ∀ i, i < n → ∀ j u, (opc (Z i))[j]? = some u → w.cell? ⟨b, off + (i * 8 + j), none⟩ = some u)
theorem CameOps.at_ {w : World} {A : Option Addr} {n i : Nat} {Z : Nat → Opv} (h : CameOps W A n Z) (hb : Below W.heap.size W w) (hi : i < n) :
    ∃ b off, A = some ⟨b, off, none⟩ ∧ b < W.heap.size ∧ ∀ j u, (opc (Z i))[j]? = some u → w.cell? ⟨b, off + (i * 8 + j), none⟩ = some u := by
  obtain ⟨b, off, hA, hlt, hc⟩ := h.2 (by omega)
  exact ⟨b, off, hA, hlt, fun j u hj => (hb.cell (p := ⟨b, off + (i * 8 + j), none⟩) hlt).trans (hc i hi j u hj)⟩
/-- a row of strings -/
def CameStrs (w : World) (A : Option Addr) (n : Nat) (S : Nat → ByteArray) : Prop :=
  (∀ i, (S i).size ≤ maxLen) ∧ (0 < n → ∃ b off, A = some ⟨b, off, none⟩ ∧ b < w.heap.size ∧ ∀ i, i < n → w.cell? ⟨b, off + i, none⟩ = some (.string (S i)))
theorem CameStrs.at_ {w : World} {A : Option Addr} {n i : Nat} {S : Nat → ByteArray} (h : CameStrs W A n S) (hb : Below W.heap.size W w) (hi : i < n) :
    ∃ b off, A = some ⟨b, off, none⟩ ∧ b < W.heap.size ∧ w.cell? ⟨b, off + i, none⟩ = some (.string (S i)) := by
  obtain ⟨b, off, hA, hlt, hc⟩ := h.2 (by omega)
  exact ⟨b, off, hA, hlt, (hb.cell (p := ⟨b, off + i, none⟩) hlt).trans (hc i hi)⟩
set_option maxRecDepth 100000 in
theorem strs_open {base : Nat} {v : Value} {d : DataW H} {ps : List MemPlace} (hv : Value.okWide Tryz.prog W .any base 25 v) (h : DataW.Trod enc Tryz.prog W 0 (fun _ => true) true 25 v d ps) :
    ∃ A n c S, v = .slice A n c ∧ n ≤ maxLen ∧ CameStrs W A n S := by
  obtain ⟨A, n, c, rfl⟩ := okWide_slice Tryz.underlying25 hv
  obtain ⟨fuel, hf⟩ := h
  rcases open_strings Tryz.underlying25 Tryz.underlying9 e_oneString hf with ⟨hcs, _⟩ | ⟨a, len, cap, ss, hcs, _, hl, hm, hz, _, hcell, hsz⟩
  · simp [Value.cells] at hcs
    obtain ⟨rfl, rfl, rfl⟩ := hcs
    exact ⟨_, _, _, fun _ => ByteArray.empty, rfl, Nat.zero_le _, fun _ => by simp, fun h => absurd h (by omega)⟩
  · simp [Value.cells] at hcs
    obtain ⟨rfl, rfl, rfl⟩ := hcs
    simp only [if_true] at hz
    refine ⟨_, _, _, fun i => ss.getD i ByteArray.empty, rfl, Nat.le_trans hl hm, fun i => ?_, fun hn => ?_⟩
    · show (ss.getD i ByteArray.empty).size ≤ maxLen
      rw [List.getD_eq_getElem?_getD]
      cases hs : ss[i]? with
      | none => simp
      | some s => exact hsz s (List.mem_of_getElem? hs)
    · obtain ⟨b, off, spot⟩ := a
      have z0 := hcell 0 (by omega)
      have hspot : spot = none := by simpa [Addr.add] using World.cell?_spot z0
      subst hspot
      refine ⟨b, off, rfl, ?_, fun i hi => ?_⟩
      · have := World.block_lt_of_cell? W _ z0
        rwa [add_plain] at this
      · have := hcell i (by omega)
        rwa [add_plain] at this
end
end Go.Proofs.YtbomodendobnkaaGreat
