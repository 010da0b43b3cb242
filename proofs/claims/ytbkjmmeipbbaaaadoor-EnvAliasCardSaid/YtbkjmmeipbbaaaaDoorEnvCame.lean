/- What came in: an Op, a row of them, a meaning, a row of strings. -/
import Derived.Test.YtbkjmmeipbbaaaaDoorEnvMath
import Derived.Test.YtbkjmmeipbbaaaaDoorRows
import Derived.Test.YtbkjmmeipbbaaaaDoorLaw
import Derived.SliceStrings
namespace Go.Proofs.YtbkjmmeipbbaaaaDoor
open Go.ChangeShapes Go.WideShapes Go.ChangeAt Go.RowKit Go.Deep

/-- an Op of the law's -/
structure Opv where
  k : Int
  at_ : Int
  to : Int
  pick : Int
  more : Int
  mkk : Int
  mnn : Int
  tx : ByteArray
def opc (o : Opv) : List Value := [.int .i64 o.k, .int .i64 o.at_, .int .i64 o.to, .int .i64 o.pick, .int .i64 o.more, .int .i64 o.mkk, .int .i64 o.mnn, .string o.tx]
def i64 (n : Int) : Prop := -9223372036854775808 ≤ n ∧ n ≤ 9223372036854775807
def OpBd (o : Opv) : Prop := i64 o.pick ∧ i64 o.at_ ∧ i64 o.to ∧ o.tx.size ≤ maxLen

section
variable {H : Type} {enc : TypeId × Value → H} {W : World}
theorem fieldsMean : ∃ fs : Array Field, Tryd.prog.underlying 24 = some (.struct fs)
    ∧ (fs[0]?).map (fun f => (f.type, f.offset)) = some (3, 0) ∧ (fs[1]?).map (fun f => (f.type, f.offset)) = some (3, 1) :=
  ⟨_, Tryd.underlying24, by kernel_rfl, by kernel_rfl⟩
theorem fieldsOp : ∃ fs : Array Field, Tryd.prog.underlying 26 = some (.struct fs)
    ∧ (fs[0]?).map (fun f => (f.type, f.offset)) = some (3, 0) ∧ (fs[1]?).map (fun f => (f.type, f.offset)) = some (3, 1) ∧ (fs[2]?).map (fun f => (f.type, f.offset)) = some (3, 2) ∧ (fs[3]?).map (fun f => (f.type, f.offset)) = some (3, 3) ∧ (fs[4]?).map (fun f => (f.type, f.offset)) = some (3, 4) ∧ (fs[5]?).map (fun f => (f.type, f.offset)) = some (24, 5) ∧ (fs[6]?).map (fun f => (f.type, f.offset)) = some (9, 7) :=
  ⟨_, Tryd.underlying26, by kernel_rfl, by kernel_rfl, by kernel_rfl, by kernel_rfl, by kernel_rfl, by kernel_rfl, by kernel_rfl⟩
theorem e_oneInt : Tryd.prog.cellsOf 3 = 1 := by kernel_rfl
theorem e_oneString : Tryd.prog.cellsOf 9 = 1 := by kernel_rfl
theorem twoMean : Tryd.prog.cellsOf 24 = 2 := by kernel_rfl
theorem eightOp : Tryd.prog.cellsOf 26 = 8 := by kernel_rfl
theorem e_bounds {n : Int} (h : (Lit.int .i64 n).wf = true) : i64 n := by
  simp [Lit.wf, show IntKind.i64.min = -9223372036854775808 by decide +kernel, show IntKind.i64.max = 9223372036854775807 by decide +kernel] at h
  exact h
set_option maxRecDepth 100000 in
theorem mean_cells {fuel : Nat} {cs : List Value} {x : DataW H × List MemPlace} (h : DataW.trod enc Tryd.prog W 0 (fun _ => true) true fuel 24 cs = some x) :
    ∃ (k n : Int), cs = [.int .i64 k, .int .i64 n] ∧ i64 k ∧ i64 n := by
  obtain ⟨fs, hu, f0, f1⟩ := fieldsMean
  obtain ⟨xs, m, hm, -, hl, hxl, hx⟩ := DataW.trod_struct hu h
  rw [twoMean] at hl
  simp only [Option.map_eq_some_iff, Prod.mk.injEq] at f0 f1
  obtain ⟨q0, e0, t0, o0⟩ := f0
  obtain ⟨q1, e1, t1, o1⟩ := f1
  have hsz : 2 ≤ fs.size := by
    have := (Array.getElem?_eq_some_iff.1 e1).1; omega
  have g := fun i (hi : i < 2) => List.getElem?_eq_getElem (l := xs) (i := i) (by omega)
  have h0 := (hx 0 q0 e0).trans (g 0 (by omega))
  have h1 := (hx 1 q1 e1).trans (g 1 (by omega))
  obtain ⟨c0, c1, rfl⟩ : ∃ c0 c1, cs = [c0, c1] := by
    match cs, hl with
    | [c0, c1], _ => exact ⟨_, _, rfl⟩
  rw [t0, o0, e_oneInt] at h0
  rw [t1, o1, e_oneInt] at h1
  simp only [List.drop, List.take_succ_cons, List.take_zero] at h0 h1
  obtain ⟨k, ek, -, wk⟩ := DataW.trod_int Tryd.underlying3 h0
  obtain ⟨n, en, -, wn⟩ := DataW.trod_int Tryd.underlying3 h1
  simp only [List.cons.injEq, and_true] at ek en
  subst ek en
  exact ⟨k, n, rfl, e_bounds wk, e_bounds wn⟩
set_option maxRecDepth 100000 in
theorem op_cells {fuel : Nat} {cs : List Value} {x : DataW H × List MemPlace} (h : DataW.trod enc Tryd.prog W 0 (fun _ => true) true fuel 26 cs = some x) :
    ∃ o : Opv, cs = opc o ∧ OpBd o := by
  obtain ⟨fs, hu, f0, f1, f2, f3, f4, f5, f6⟩ := fieldsOp
  obtain ⟨xs, m, hm, -, hl, hxl, hx⟩ := DataW.trod_struct hu h
  rw [eightOp] at hl
  simp only [Option.map_eq_some_iff, Prod.mk.injEq] at f0 f1 f2 f3 f4 f5 f6
  obtain ⟨q0, e0, t0, o0⟩ := f0
  obtain ⟨q1, e1, t1, o1⟩ := f1
  obtain ⟨q2, e2, t2, o2⟩ := f2
  obtain ⟨q3, e3, t3, o3⟩ := f3
  obtain ⟨q4, e4, t4, o4⟩ := f4
  obtain ⟨q5, e5, t5, o5⟩ := f5
  obtain ⟨q6, e6, t6, o6⟩ := f6
  have hsz : 7 ≤ fs.size := by
    have := (Array.getElem?_eq_some_iff.1 e6).1; omega
  have g := fun i (hi : i < 7) => List.getElem?_eq_getElem (l := xs) (i := i) (by omega)
  have h0 := (hx 0 q0 e0).trans (g 0 (by omega))
  have h1 := (hx 1 q1 e1).trans (g 1 (by omega))
  have h2 := (hx 2 q2 e2).trans (g 2 (by omega))
  have h3 := (hx 3 q3 e3).trans (g 3 (by omega))
  have h4 := (hx 4 q4 e4).trans (g 4 (by omega))
  have h5 := (hx 5 q5 e5).trans (g 5 (by omega))
  have h6 := (hx 6 q6 e6).trans (g 6 (by omega))
  obtain ⟨c0, c1, c2, c3, c4, c5, c6, c7, rfl⟩ : ∃ c0 c1 c2 c3 c4 c5 c6 c7, cs = [c0, c1, c2, c3, c4, c5, c6, c7] := by
    match cs, hl with
    | [c0, c1, c2, c3, c4, c5, c6, c7], _ => exact ⟨_, _, _, _, _, _, _, _, rfl⟩
  rw [t0, o0, e_oneInt] at h0
  rw [t1, o1, e_oneInt] at h1
  rw [t2, o2, e_oneInt] at h2
  rw [t3, o3, e_oneInt] at h3
  rw [t4, o4, e_oneInt] at h4
  rw [t5, o5, twoMean] at h5
  rw [t6, o6, e_oneString] at h6
  simp only [List.drop, List.take_succ_cons, List.take_zero] at h0 h1 h2 h3 h4 h5 h6
  obtain ⟨k0, ek0, -, wk0⟩ := DataW.trod_int Tryd.underlying3 h0
  obtain ⟨k1, ek1, -, wk1⟩ := DataW.trod_int Tryd.underlying3 h1
  obtain ⟨k2, ek2, -, wk2⟩ := DataW.trod_int Tryd.underlying3 h2
  obtain ⟨k3, ek3, -, wk3⟩ := DataW.trod_int Tryd.underlying3 h3
  obtain ⟨k4, ek4, -, wk4⟩ := DataW.trod_int Tryd.underlying3 h4
  obtain ⟨mk, mn, em, -, -⟩ := mean_cells h5
  obtain ⟨s, es, -, ws⟩ := DataW.trod_string Tryd.underlying9 h6
  simp only [List.cons.injEq, and_true] at ek0 ek1 ek2 ek3 ek4 em es
  obtain ⟨rfl, rfl⟩ := em
  subst ek0 ek1 ek2 ek3 ek4 es
  exact ⟨⟨k0, k1, k2, k3, k4, mk, mn, s⟩, rfl, e_bounds wk3, e_bounds wk1, e_bounds wk2, ws⟩
set_option maxRecDepth 100000 in
theorem mean_open {base : Nat} {v : Value} {d : DataW H} {ps : List MemPlace} (hv : Value.okWide Tryd.prog W .any base 24 v) (h : DataW.Trod enc Tryd.prog W 0 (fun _ => true) true 24 v d ps) :
    ∃ k n : Int, v = .agg #[.int .i64 k, .int .i64 n] := by
  obtain ⟨cs, rfl, hs⟩ := okWide_struct (Tryd.underlying24) hv
  obtain ⟨fuel, hf⟩ := h
  obtain ⟨k, n, e, -, -⟩ := mean_cells hf
  refine ⟨k, n, ?_⟩
  obtain ⟨l⟩ := cs
  simp [Value.cells] at e
  subst e
  rfl
set_option maxRecDepth 100000 in
theorem op_open {base : Nat} {v : Value} {d : DataW H} {ps : List MemPlace} (hv : Value.okWide Tryd.prog W .any base 26 v) (h : DataW.Trod enc Tryd.prog W 0 (fun _ => true) true 26 v d ps) :
    ∃ o : Opv, v = .agg (opc o).toArray ∧ OpBd o := by
  obtain ⟨cs, rfl, hs⟩ := okWide_struct (Tryd.underlying26) hv
  obtain ⟨fuel, hf⟩ := h
  obtain ⟨o, e, hb⟩ := op_cells hf
  refine ⟨o, ?_, hb⟩
  obtain ⟨l⟩ := cs
  simp [Value.cells] at e
  subst e
  rfl
/-- a row of Ops -/
def CameOps (w : World) (A : Option Addr) (n : Nat) (Z : Nat → Opv) : Prop :=
  (∀ i, OpBd (Z i)) ∧ (0 < n → ∃ b off, A = some ⟨b, off, none⟩ ∧ b < w.heap.size ∧ ∀ i, i < n → ∀ j u, (opc (Z i))[j]? = some u → w.cell? ⟨b, off + (i * 8 + j), none⟩ = some u)
theorem CameOps.at_ {w : World} {A : Option Addr} {n i : Nat} {Z : Nat → Opv} (h : CameOps W A n Z) (hb : Below W.heap.size W w) (hi : i < n) :
    ∃ b off, A = some ⟨b, off, none⟩ ∧ b < W.heap.size ∧ ∀ j u, (opc (Z i))[j]? = some u → w.cell? ⟨b, off + (i * 8 + j), none⟩ = some u := by
  obtain ⟨b, off, hA, hlt, hc⟩ := h.2 (by omega)
  exact ⟨b, off, hA, hlt, fun j u hj => (hb.cell (p := ⟨b, off + (i * 8 + j), none⟩) hlt).trans (hc i hi j u hj)⟩
set_option maxRecDepth 100000 in
theorem ops_open {base : Nat} {v : Value} {d : DataW H} {ps : List MemPlace} (hv : Value.okWide Tryd.prog W .any base 22 v) (h : DataW.Trod enc Tryd.prog W 0 (fun _ => true) true 22 v d ps) :
    ∃ A n c Z, v = .slice A n c ∧ n ≤ maxLen ∧ CameOps W A n Z := by
  obtain ⟨A, n, c, rfl⟩ := okWide_slice Tryd.underlying22 hv
  obtain ⟨fuel, hf⟩ := h
  have hz : OpBd ⟨0, 0, 0, 0, 0, 0, 0, ByteArray.empty⟩ := by unfold OpBd i64 maxLen; simp
  rcases open_slice Tryd.underlying22 hf with ⟨hcs, _⟩ | ⟨a, len, cap, m, q, D, Pl, hcs, _, hl, hm, hmm, _, hall⟩
  · simp [Value.cells] at hcs
    obtain ⟨rfl, rfl, rfl⟩ := hcs
    exact ⟨_, _, _, fun _ => ⟨0, 0, 0, 0, 0, 0, 0, ByteArray.empty⟩, rfl, Nat.zero_le _, fun _ => hz, fun h => absurd h (by omega)⟩
  · simp [Value.cells] at hcs
    obtain ⟨rfl, rfl, rfl⟩ := hcs
    simp only [if_true] at hmm
    have each : ∀ i, ∃ o : Opv, OpBd o ∧ (i < n → ∀ j u, (opc o)[j]? = some u → W.cell? (a.add (i * 8 + j)) = some u) := by
      intro i
      by_cases hi : i < n
      · obtain ⟨cs', hcells, htr⟩ := hall i (by omega)
        obtain ⟨o, rfl, hb⟩ := op_cells htr
        rw [eightOp] at hcells
        obtain ⟨_, _, hat⟩ := World.cells?_some hcells
        refine ⟨o, hb, fun _ j u hj => ?_⟩
        have hjl : j < 8 := by have := (List.getElem?_eq_some_iff.1 hj).1; simpa [opc] using this
        have := hat j hjl
        rw [Go.Deep.add_add, hj] at this
        exact this
      · exact ⟨_, hz, fun h => absurd h hi⟩
    obtain ⟨Z, hZ⟩ := Classical.axiomOfChoice each
    refine ⟨_, _, _, Z, rfl, Nat.le_trans hl hm, fun i => (hZ i).1, fun hn => ?_⟩
    obtain ⟨b, off, spot⟩ := a
    have z0 := (hZ 0).2 hn 0 _ rfl
    have hspot : spot = none := by simpa [Addr.add] using World.cell?_spot z0
    subst hspot
    refine ⟨b, off, rfl, ?_, fun i hi j u hj => ?_⟩
    · have := World.block_lt_of_cell? W _ z0
      rwa [add_plain] at this
    · have := (hZ i).2 hi j u hj
      rwa [add_plain] at this
/-- a row of strings -/
def CameStrs (w : World) (A : Option Addr) (n : Nat) (S : Nat → ByteArray) : Prop :=
  (∀ i, (S i).size ≤ maxLen) ∧ (0 < n → ∃ b off, A = some ⟨b, off, none⟩ ∧ b < w.heap.size ∧ ∀ i, i < n → w.cell? ⟨b, off + i, none⟩ = some (.string (S i)))
theorem CameStrs.at_ {w : World} {A : Option Addr} {n i : Nat} {S : Nat → ByteArray} (h : CameStrs W A n S) (hb : Below W.heap.size W w) (hi : i < n) :
    ∃ b off, A = some ⟨b, off, none⟩ ∧ b < W.heap.size ∧ w.cell? ⟨b, off + i, none⟩ = some (.string (S i)) := by
  obtain ⟨b, off, hA, hlt, hc⟩ := h.2 (by omega)
  exact ⟨b, off, hA, hlt, (hb.cell (p := ⟨b, off + i, none⟩) hlt).trans (hc i hi)⟩
set_option maxRecDepth 100000 in
theorem strs_open {base : Nat} {v : Value} {d : DataW H} {ps : List MemPlace} (hv : Value.okWide Tryd.prog W .any base 55 v) (h : DataW.Trod enc Tryd.prog W 0 (fun _ => true) true 55 v d ps) :
    ∃ A n c S, v = .slice A n c ∧ n ≤ maxLen ∧ CameStrs W A n S := by
  obtain ⟨A, n, c, rfl⟩ := okWide_slice Tryd.underlying55 hv
  obtain ⟨fuel, hf⟩ := h
  rcases open_strings Tryd.underlying55 Tryd.underlying9 e_oneString hf with ⟨hcs, _⟩ | ⟨a, len, cap, ss, hcs, _, hl, hm, hz, _, hcell, hsz⟩
  · simp [Value.cells] at hcs
    obtain ⟨rfl, rfl, rfl⟩ := hcs
    exact ⟨_, _, _, fun _ => ByteArray.empty, rfl, Nat.zero_le _, fun _ => by simp, fun h => absurd h (by omega)⟩
  · simp [Value.cells] at hcs
    obtain ⟨rfl, rfl, rfl⟩ := hcs
    simp only [if_true] at hz
    refine ⟨_, _, _, fun i => ss.getD i ByteArray.empty, rfl, Nat.le_trans hl hm, fun i => ?_, fun hn => ?_⟩
    · show (ss.getD i ByteArray.empty).size ≤ maxLen
      rw [List.getD_eq_getElem?_getD]
      cases hs : ss[i]? with
      | none => simp
      | some s => exact hsz s (List.mem_of_getElem? hs)
    · obtain ⟨b, off, spot⟩ := a
      have z0 := hcell 0 (by omega)
      have hspot : spot = none := by simpa [Addr.add] using World.cell?_spot z0
      subst hspot
      refine ⟨b, off, rfl, ?_, fun i hi => ?_⟩
      · have := World.block_lt_of_cell? W _ z0
        rwa [add_plain] at this
      · have := hcell i (by omega)
        rwa [add_plain] at this
end
end Go.Proofs.YtbkjmmeipbbaaaaDoor
