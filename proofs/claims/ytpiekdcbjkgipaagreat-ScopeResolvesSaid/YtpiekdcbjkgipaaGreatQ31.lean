/-
  DERIVED: THE SHELF's CONTRACTS AT THIS DUMP, IN PLAIN WORDS (tools/lay-plain.mjs out of 'YtpiekdcbjkgipaaGreatKeysRaw.lean', which tools/lay-shelf.mjs wrote): THE SAME DECLARATIONS UNDER THE SAME NAMES: 'import', 'namespace', 'open', 'def', 'theorem' AND NOTHING ELSE: no command of the shelf's: FOR A HAND-IN. Each laying: the table of numbers ('.._ren') and one theorem, a field a fact of the dump's own or the kernel's comparison; each contract: ONE APPLICATION.
-/
import Derived.Shelf.SlIterI.Sorted
import Derived.Shelf.SortM.Plain
import Derived.Shelf.SortM.SortNone
import Derived.Test.YtpiekdcbjkgipaaGreatProg
import Derived.Test.YtpiekdcbjkgipaaGreatMem
import Derived.Test.YtpiekdcbjkgipaaGreatQ5
import Derived.Test.YtpiekdcbjkgipaaGreatQ1
import Derived.Maps.OwnSet
import Derived.Shelf.AbstractIn
import Derived.Maps.Ext
import Derived.Maps.RangeWalk
import Derived.Laws.IdiomRangeMap
import Derived.Test.YtpiekdcbjkgipaaGreatQ28
namespace Go.Proofs
open Go.Shelf
def Tryz.keysA_ren : Go.Shelf.Ren := ⟨fun | 7 => 46 | 10 => 65 | n => n, fun | 23 => 53 | 26 => 3 | 3 => 76 | 28 => 74 | 0 => 0 | 27 => 73 | 33 => 106 | 4 => 4 | n => n, fun | n => n⟩
theorem Tryz.keysA : Go.Proofs.SlLaysZI.n7 Tryz.prog Tryz.keysA_ren := {
  mixed := by kernel_rfl
  f7 := ⟨Tryz.f46.name, by decide, Tryz.func46.trans (congrArg some (by kernel_rfl))⟩
  f10 := ⟨Tryz.f65.name, by decide, Tryz.func65.trans (congrArg some (by kernel_rfl))⟩
  t0 := Tryz.underlying0
  a0 := Tryz.isAgg0
  z0 := Tryz.sizeOf0
  v0 := Tryz.zeroValue0
  t4 := Tryz.underlying4
  a4 := Tryz.isAgg4
  z4 := Tryz.sizeOf4
  v4 := Tryz.zeroValue4
  t23 := Tryz.underlying53
  a23 := Tryz.isAgg53
  z23 := Tryz.sizeOf53
  v23 := Tryz.zeroValue53
  t26 := Tryz.underlying3
  a26 := Tryz.isAgg3
  z26 := Tryz.sizeOf3
  v26 := Tryz.zeroValue3
  t27 := Tryz.underlying73
  a27 := Tryz.isAgg73
  z27 := Tryz.sizeOf73
  v27 := Tryz.zeroValue73
  t28 := Tryz.underlying74
  a28 := Tryz.isAgg74
  z28 := Tryz.sizeOf74
  v28 := Tryz.zeroValue74
  t33 := Tryz.underlying106
  a33 := Tryz.isAgg106
  z33 := Tryz.sizeOf106
  v33 := Tryz.zeroValue106 }
def Tryz.sortedA_ren : Go.Shelf.Ren := ⟨fun | 6 => 45 | 8 => 63 | 9 => 64 | 11 => 76 | 13 => 78 | 12 => 77 | 23 => 94 | 24 => 95 | 14 => 85 | 15 => 86 | 16 => 87 | 17 => 88 | 18 => 89 | 19 => 90 | 20 => 91 | 21 => 92 | 22 => 93 | 25 => 99 | 26 => 100 | 27 => 101 | 28 => 102 | 29 => 103 | 30 => 104 | 31 => 111 | n => n, fun | 26 => 3 | 28 => 74 | 24 => 22 | 0 => 0 | 3 => 3 | 37 => 115 | 48 => 128 | 50 => 130 | 4 => 4 | 40 => 120 | 39 => 119 | 45 => 125 | 5 => 5 | 9 => 9 | 51 => 135 | 55 => 139 | 57 => 144 | 58 => 41 | 33 => 106 | n => n, fun | n => n⟩
theorem Tryz.sortedA : Go.Proofs.SlLaysZI.n6 Tryz.prog Tryz.sortedA_ren := {
  mixed := by kernel_rfl
  f6 := ⟨Tryz.f45.name, by decide, Tryz.func45.trans (congrArg some (by kernel_rfl))⟩
  f8 := ⟨Tryz.f63.name, by decide, Tryz.func63.trans (congrArg some (by kernel_rfl))⟩
  f11 := ⟨Tryz.f76.name, by decide, Tryz.func76.trans (congrArg some (by kernel_rfl))⟩
  t0 := Tryz.underlying0
  a0 := Tryz.isAgg0
  z0 := Tryz.sizeOf0
  v0 := Tryz.zeroValue0
  t24 := Tryz.underlying22
  a24 := Tryz.isAgg22
  z24 := Tryz.sizeOf22
  v24 := Tryz.zeroValue22
  t26 := Tryz.underlying3
  a26 := Tryz.isAgg3
  z26 := Tryz.sizeOf3
  v26 := Tryz.zeroValue3
  t28 := Tryz.underlying74
  a28 := Tryz.isAgg74
  z28 := Tryz.sizeOf74
  v28 := Tryz.zeroValue74
  i26 := by kernel_rfl }
def Tryz.sortA_ren : Go.Shelf.Ren := ⟨fun | 5 => 64 | 8 => 78 | 7 => 77 | 19 => 94 | 20 => 95 | 10 => 85 | 11 => 86 | 12 => 87 | 13 => 88 | 14 => 89 | 15 => 90 | 16 => 91 | 17 => 92 | 18 => 93 | 30 => 99 | 31 => 100 | 32 => 101 | 33 => 102 | 34 => 103 | 35 => 104 | 40 => 111 | n => n, fun | 23 => 22 | 25 => 3 | 3 => 3 | 32 => 115 | 22 => 22 | 0 => 0 | 44 => 128 | 46 => 130 | 4 => 4 | 36 => 120 | 35 => 119 | 41 => 125 | 5 => 5 | 9 => 9 | 53 => 135 | 57 => 139 | 63 => 144 | 64 => 41 | n => n, fun | n => n⟩
theorem Tryz.sortA : Go.Proofs.SlLaysM.n5 Tryz.prog Tryz.sortA_ren := {
  mixed := by kernel_rfl
  f5 := ⟨Tryz.f64.name, by decide, Tryz.func64.trans (congrArg some (by kernel_rfl))⟩
  f7 := ⟨Tryz.f77.name, by decide, Tryz.func77.trans (congrArg some (by kernel_rfl))⟩
  f8 := Tryz.func78.trans (congrArg some (by kernel_rfl))
  f10 := ⟨Tryz.f85.name, by decide, Tryz.func85.trans (congrArg some (by kernel_rfl))⟩
  f11 := ⟨Tryz.f86.name, by decide, Tryz.func86.trans (congrArg some (by kernel_rfl))⟩
  f12 := ⟨Tryz.f87.name, by decide, Tryz.func87.trans (congrArg some (by kernel_rfl))⟩
  f13 := ⟨Tryz.f88.name, by decide, Tryz.func88.trans (congrArg some (by kernel_rfl))⟩
  f14 := ⟨Tryz.f89.name, by decide, Tryz.func89.trans (congrArg some (by kernel_rfl))⟩
  f15 := ⟨Tryz.f90.name, by decide, Tryz.func90.trans (congrArg some (by kernel_rfl))⟩
  f16 := ⟨Tryz.f91.name, by decide, Tryz.func91.trans (congrArg some (by kernel_rfl))⟩
  f17 := ⟨Tryz.f92.name, by decide, Tryz.func92.trans (congrArg some (by kernel_rfl))⟩
  f18 := ⟨Tryz.f93.name, by decide, Tryz.func93.trans (congrArg some (by kernel_rfl))⟩
  f19 := Tryz.func94.trans (congrArg some (by kernel_rfl))
  f20 := Tryz.func95.trans (congrArg some (by kernel_rfl))
  f30 := ⟨Tryz.f99.name, by decide, Tryz.func99.trans (congrArg some (by kernel_rfl))⟩
  f31 := Tryz.func100.trans (congrArg some (by kernel_rfl))
  f32 := Tryz.func101.trans (congrArg some (by kernel_rfl))
  f33 := ⟨Tryz.f102.name, by decide, Tryz.func102.trans (congrArg some (by kernel_rfl))⟩
  f34 := ⟨Tryz.f103.name, by decide, Tryz.func103.trans (congrArg some (by kernel_rfl))⟩
  f35 := ⟨Tryz.f104.name, by decide, Tryz.func104.trans (congrArg some (by kernel_rfl))⟩
  f40 := ⟨Tryz.f111.name, by decide, Tryz.func111.trans (congrArg some (by kernel_rfl))⟩
  t0 := Tryz.underlying0
  a0 := Tryz.isAgg0
  z0 := Tryz.sizeOf0
  v0 := Tryz.zeroValue0
  t3 := Tryz.underlying3
  a3 := Tryz.isAgg3
  z3 := Tryz.sizeOf3
  v3 := Tryz.zeroValue3
  t4 := Tryz.underlying4
  a4 := Tryz.isAgg4
  z4 := Tryz.sizeOf4
  v4 := Tryz.zeroValue4
  t5 := Tryz.underlying5
  a5 := Tryz.isAgg5
  z5 := Tryz.sizeOf5
  v5 := Tryz.zeroValue5
  t9 := Tryz.underlying9
  a9 := Tryz.isAgg9
  z9 := Tryz.sizeOf9
  v9 := Tryz.zeroValue9
  t22 := Tryz.underlying22
  a22 := Tryz.isAgg22
  z22 := Tryz.sizeOf22
  v22 := Tryz.zeroValue22
  t23 := Tryz.underlying22
  a23 := Tryz.isAgg22
  z23 := Tryz.sizeOf22
  v23 := Tryz.zeroValue22
  t25 := Tryz.underlying3
  a25 := Tryz.isAgg3
  z25 := Tryz.sizeOf3
  v25 := Tryz.zeroValue3
  t32 := Tryz.underlying115
  a32 := Tryz.isAgg115
  z32 := Tryz.sizeOf115
  v32 := Tryz.zeroValue115
  t35 := Tryz.underlying119
  a35 := Tryz.isAgg119
  z35 := Tryz.sizeOf119
  v35 := Tryz.zeroValue119
  t36 := Tryz.underlying120
  a36 := Tryz.isAgg120
  z36 := Tryz.sizeOf120
  v36 := Tryz.zeroValue120
  t41 := Tryz.underlying125
  a41 := Tryz.isAgg125
  z41 := Tryz.sizeOf125
  v41 := Tryz.zeroValue125
  t44 := Tryz.underlying128
  a44 := Tryz.isAgg128
  z44 := Tryz.sizeOf128
  v44 := Tryz.zeroValue128
  t46 := Tryz.underlying130
  a46 := Tryz.isAgg130
  z46 := Tryz.sizeOf130
  v46 := Tryz.zeroValue130
  t53 := Tryz.underlying135
  a53 := Tryz.isAgg135
  z53 := Tryz.sizeOf135
  v53 := Tryz.zeroValue135
  t57 := Tryz.underlying139
  a57 := Tryz.isAgg139
  z57 := Tryz.sizeOf139
  v57 := Tryz.zeroValue139
  t63 := Tryz.underlying144
  a63 := Tryz.isAgg144
  z63 := Tryz.sizeOf144
  v63 := Tryz.zeroValue144
  t64 := Tryz.underlying41
  a64 := Tryz.isAgg41
  z64 := Tryz.sizeOf41
  v64 := Tryz.zeroValue41 }
end Go.Proofs

/- Package scope: some of a program's locals, as a map that the call itself has made; add, and all of them in order. -/
namespace Go.Proofs.YtpiekdcbjkgipaaGreat
open Go.RowKit Go.Maps

theorem Tryz.keyLawS : Keyed Tryz.prog 3 := int_keyed Tryz.underlying3
/-- the element of such a map: nothing -/
def unitR (v : Value) : Option (DataW Unit × List MemPlace) := match v with
  | .agg cs => if cs.size = 0 then some (.agg [], []) else none
  | _ => none
theorem unitR_mk : unitR (.agg #[]) = some (.agg [], []) := rfl
theorem unitR_inv {v : Value} {d : DataW Unit} {ps : List MemPlace} (h : unitR v = some (d, ps)) : v = .agg #[] ∧ d = .agg [] ∧ ps = [] := by
  cases v <;> simp [unitR] at h
  obtain ⟨rfl, h2, h3⟩ := h
  exact ⟨rfl, h2.symm, h3⟩
/-- block q is a map of at most n keys: those of F -/
def Ls (w : World) (q n : Nat) (F : Int → Bool) : Prop := ∃ D : DataW Unit, w.ownsMap Tryz.prog 3 unitR q n D ∧ ∀ x, Maps.has D (.int .i64 x) = F x
section
variable {w w' : World} {q n : Nat} {F : Int → Bool}
theorem Ls.made (w : World) : Ls (w.alloc (.map #[] 0)) w.heap.size 0 (fun _ => false) := ⟨.map [], World.ownsMap_made w _ _ _, fun _ => rfl⟩
theorem Ls.lt (h : Ls w q n F) : q < w.heap.size := by
  obtain ⟨D, h, _⟩ := h
  exact h.lt
theorem Ls.turns {X : Nat → Prop} (h : Ls w q n F) (k : Turns X w w') (hx : ¬ X q) : Ls w' q n F := by
  have hlt := h.lt
  obtain ⟨D, ⟨es, clock, hb, r⟩, hD⟩ := h
  exact ⟨D, ⟨es, clock, (k.block q hlt hx).trans hb, r⟩, hD⟩
theorem Ls.below (h : Ls w q n F) (k : Below w.heap.size w w') : Ls w' q n F := h.turns (Turns.of_below k (fun _ => False)) (fun h => h)
theorem Ls.mono {m : Nat} (h : Ls w q n F) (hm : n ≤ m) : Ls w q m F := by
  obtain ⟨D, h, hD⟩ := h
  exact ⟨D, h.mono hm, hD⟩
theorem Ls.apart {g : Nat} {t : TypeId} {cs : List Value} (h : Ls w q n F) (k : Lies w g t cs) : q ≠ g := by
  intro e
  subst e
  obtain ⟨D, ⟨es, clock, hb, _⟩, _⟩ := h
  unfold Lies at k
  rw [hb] at k
  cases k
def lput (F : Int → Bool) (a : Int) (v : Bool) : Int → Bool := fun y => if y = a then v else F y
theorem ikey_ne {a b : Int} (h : a ≠ b) : Lit.int IntKind.i64 a ≠ Lit.int IntKind.i64 b := fun e => h (by injection e)
theorem ikey_of {a : Int} (h : (Lit.int .i64 a).wf = true) : keyOf Tryz.prog 3 (.int .i64 a) = some (.int .i64 a) := keyOf_int_mk Tryz.underlying3 h
set_option maxRecDepth 100000 in
/-- m[a] = struct{}{} -/
theorem Ls.put (h : Ls w q n F) (hn : n ≤ 1000000000) {a : Int} (ha : (Lit.int .i64 a).wf = true) :
    ∃ w', (Instr.mapUpdate 53 (.map (some q)) (.int .i64 a) (.agg #[])).run Tryz.prog w = .ok () w' ∧ Ls w' q (n + 1) (lput F a true) ∧ Turns (fun g => g = q) w w' := by
  obtain ⟨D, h1, h3⟩ := h
  obtain ⟨w', hrun, hown, hg⟩ := h1.update Tryz.keyLawS Tryz.underlying53 (by unfold maxLen; omega) (ikey_of ha) unitR_mk
  refine ⟨w', hrun, ⟨D.put (.int .i64 a) (.agg []), hown, fun y => ?_⟩, (Turns.refl _ w).grown hg (fun g e _ => by injection e with e; exact e.symm)⟩
  by_cases e : y = a
  · subst e
    rw [has_put_same h1.isMap (k := .int .i64 y) trivial]; simp [lput]
  · rw [has_put_other (ikey_ne e), h3 y]; simp [lput, e]
set_option maxRecDepth 100000 in
/-- delete(m, a) -/
theorem Ls.drop (h : Ls w q n F) {a : Int} (ha : (Lit.int .i64 a).wf = true) (ty : TypeId) :
    ∃ w', (Builtin.delete_ #[53, 3] ty #[.map (some q), .int .i64 a]).run Tryz.prog w = .ok (.tuple #[]) w' ∧ Ls w' q n (lput F a false) ∧ Turns (fun g => g = q) w w' := by
  obtain ⟨D, h1, h3⟩ := h
  obtain ⟨w', hrun, hown, hg⟩ := h1.drop Tryz.keyLawS Tryz.underlying53 (ikey_of ha) ty
  refine ⟨w', hrun, ⟨D.del (.int .i64 a), hown, fun y => ?_⟩, (Turns.refl _ w).grown hg.grown (fun g e _ => by injection e with e; exact e.symm)⟩
  by_cases e : y = a
  · subst e
    rw [has_del_same]; simp [lput]
  · rw [has_del_other (ikey_ne e), h3 y]; simp [lput, e]
theorem ownsMap_keys {D : DataW Unit} (h : w.ownsMap Tryz.prog 3 unitR q n D) : (intKeys D).Nodup ∧ ∀ x, x ∈ intKeys D ↔ Maps.has D (.int .i64 x) = true := by
  obtain ⟨es, hD, hpw, _⟩ := h.entries Tryz.keyLawS
  obtain ⟨es', hD', hko⟩ := h.keysOf
  obtain rfl : es = es' := by rw [hD] at hD'; simpa using hD'
  subst hD
  have hk : ∀ p ∈ es, ∃ x, p.1 = Lit.int .i64 x := fun p hp => by
    obtain ⟨v, hv⟩ := hko p hp
    obtain ⟨x, _, hx, _⟩ := Maps.keyOf_i64 Tryz.underlying3 hv
    exact ⟨x, hx⟩
  refine ⟨?_, fun x => ?_⟩
  · show (es.map fun p => Go.intOf p.1).Nodup
    refine List.pairwise_map.2 (hpw.imp_of_mem fun {p r} hp' hq' hne e => hne ?_)
    obtain ⟨a, ha⟩ := hk p hp'
    obtain ⟨b, hb⟩ := hk r hq'
    rw [ha, hb] at e ⊢
    exact congrArg _ e
  · rw [has_eq, List.any_eq_true]
    show x ∈ (es.map fun p => Go.intOf p.1) ↔ _
    rw [List.mem_map]
    constructor
    · rintro ⟨p, hp', rfl⟩
      obtain ⟨a, ha⟩ := hk p hp'
      exact ⟨p, hp', by rw [ha]; simp [Lit.sameKey, Go.intOf]⟩
    · rintro ⟨p, hp', hs⟩
      obtain ⟨a, ha⟩ := hk p hp'
      rw [ha] at hs
      exact ⟨p, hp', by rw [ha]; simpa [Lit.sameKey, Go.intOf] using hs⟩
theorem sorted_strict {l : List Int} (h : l.Nodup) : (l.mergeSort (fun x y => decide (x ≤ y))).Pairwise (· < ·) := by
  have tr : ∀ a b c : Int, decide (a ≤ b) = true → decide (b ≤ c) = true → decide (a ≤ c) = true := fun a b c h1 h2 => by simp only [decide_eq_true_eq] at *; omega
  have tot : ∀ a b : Int, (decide (a ≤ b) || decide (b ≤ a)) = true := fun a b => by simp only [Bool.or_eq_true, decide_eq_true_eq]; omega
  have h1 := List.pairwise_mergeSort tr tot l
  have h2 : (l.mergeSort (fun x y => decide (x ≤ y))).Nodup := (List.mergeSort_perm l _).nodup_iff.2 h
  refine (h1.and h2).imp fun {a b} hab => ?_
  have := hab.1
  simp only [decide_eq_true_eq] at this
  have := hab.2
  omega
end
/-- slices.Sort's two contracts at this dump, at the fence that asks nothing -/
theorem sorts_in (m : Nat) : AnyZI.SortsIn Tryz.prog Tryz.sortedA_ren Fence.wide m :=
  ⟨fun blk off cap ss W hH hblk hsz => callsIn_wide.2 (AnyM.slices_Sort_int Tryz.sortA blk off cap ss W hH hblk hsz),
   fun p cap W => callsIn_wide.2 (AnyM.slices_Sort_int_none Tryz.sortA p cap W)⟩
set_option maxRecDepth 100000 in
set_option maxHeartbeats 4000000 in
theorem rising_any (w : World) (q n : Nat) (F : Int → Bool) (h : Ls w q n F) (hn : n ≤ 1000000) :
    Calls Tryz.prog 25 #[.map (some q)] w fun e w' => ∃ (v : Value) (l : List Int), e = .returned v ∧ Own w' w.heap.size v l ∧ l.Pairwise (· < ·) ∧ (∀ x, x ∈ l ↔ F x = true) ∧ Below w.heap.size w w' := by
  obtain ⟨D0, hown, hF⟩ := h
  obtain ⟨hnd, hmem⟩ := ownsMap_keys hown
  have hsz : Maps.size D0 ≤ n := by
    obtain ⟨es, clock, hb, Fx, hs, e⟩ := hown
    rw [e]
    simpa [Maps.size, length_sorted] using hs
  refine (callsIn_wide (n := 6)).1 ?_
  have hbl := hown.lt
  have hseq : SeqGives Fence.wide 2 Tryz.prog 65 #[.pointer (some ⟨w.heap.size, 0, none⟩)] encZ (fun ss => ss.Perm (intKeys D0)) (Maps.size D0) (w.alloc (.cells #[.map (some q)] 53)) :=
    AnyZI.keys_gives (ρ := Tryz.keysA_ren) { Tryz.keysA with } Fence.wide _ trivial rfl (by omega) w.heap.size q n D0 _ (by simp) (by simp) (by
      obtain ⟨es, clock, hb, Ft, hs, hD⟩ := hown
      exact ⟨es, clock, (Below.heap_alloc _ _ q hbl).trans hb, Ft, hs, hD⟩)
  have cK : ∀ mb W, CallsIn Fence.wide 5 Tryz.prog 46 #[.map mb] W fun e w' => e = .returned (.func (.func 65) #[] #[.pointer (some ⟨W.heap.size, 0, none⟩)]) ∧ w' = W.alloc (.cells #[.map mb] 53) := fun mb W => AnyZI.keys_in Tryz.keysA Fence.wide 5 trivial rfl mb W
  have cS := AnyZI.sorted_in Tryz.sortedA Fence.wide 5 trivial trivial trivial trivial rfl (by omega) (sorts_in _) (enters_of Tryz.func64 (by kernel_rfl) rfl) 65 #[.pointer (some ⟨w.heap.size, 0, none⟩)] trivial (enters_of Tryz.func65 (by kernel_rfl) rfl) _ _ (by unfold maxLen; omega) (by omega) _ hseq
  change CallsIn _ _ Tryz.prog 45 _ _ _ at cS
  have hfK : Fence.wide.fn 46 := trivial
  have hfS : Fence.wide.fn 45 := trivial
  refine callsIn_of_wp Tryz.func25 rfl trivial ?_ rfl
  simp only [Tryz.ntmps25, List.size_toArray, List.length_cons, List.length_nil, Nat.reduceAdd, Nat.reduceSub, Array.replicate_succ, Array.replicate_zero, List.push_toArray, List.append_toArray, List.nil_append, List.cons_append]
  gi_wp2_with (first
    | (gi_at_call 46; refine (cK _ _).mono ?_; rintro e w' ⟨rfl, rfl⟩)
    | (gi_at_call 45; refine cS.mono ?_; rintro e w' ⟨v, ss, rfl, hS, hrow, hnil, hb⟩))
  go_ret
  refine ⟨v, ss.mergeSort (fun x y => decide (x ≤ y)), rfl, ?_, sorted_strict (hS.nodup_iff.2 hnd), fun x => ?_, ((Below.refl _ w).alloc (Nat.le_refl _) _).trans (hb.mono (by simp))⟩
  · unfold Own
    rw [List.length_mergeSort]
    exact own_base hrow (by simp)
  · rw [List.mem_mergeSort, hS.mem_iff, hmem, hF]
end Go.Proofs.YtpiekdcbjkgipaaGreat

/- Package scope: maps.Copy of a map of locals into another, walked; and remove. -/
namespace Go.Proofs.YtpiekdcbjkgipaaGreat
open Go.RowKit Go.Maps

set_option maxHeartbeats 4000000 in
set_option maxRecDepth 100000 in
theorem lcopy_any (w : World) (bd bs nd ns : Nat) (Fd Fs : Int → Bool) (hd : Ls w bd nd Fd) (hs : Ls w bs ns Fs) (hne : bd ≠ bs) (hn : nd + ns ≤ 1000000) :
    Calls Tryz.prog 59 #[.map (some bd), .map (some bs)] w fun e w' => e = .returned (.tuple #[]) ∧ Ls w' bd (nd + ns) (fun x => Fd x || Fs x) ∧ Turns (fun g => g = bd) w w' := by
  obtain ⟨Dd, hd, hFd⟩ := hd
  obtain ⟨Ds, hs, hFs⟩ := hs
  have hsz : Maps.size Ds ≤ ns := by
    obtain ⟨es, clock, hb, Fx, hs, e⟩ := hs
    rw [e]
    simpa [Maps.size, length_sorted] using hs
  have hbd := hd.lt
  have hbs := hs.lt
  go_enter Tryz.func59, Tryz.ntmps59
  go_wp2_with (first
    | (at_range; refine wpList_range_own _ rfl _ 53 rfl 3 76 Tryz.keyLawS Tryz.underlying53 unitR bs ns _ rfl hs ?_; intro w0 hrg0 hg0 hs0)
    | go_in)
  go_frame
  go_loopw [8] (fun _ wr => ∃ (left : Lit → Bool) (cnt : Nat) (Dout : DataW Unit), wr.ranges Tryz.prog 3 unitR bs w.heap.size ns Ds left cnt ∧ cnt ≤ Maps.size Ds ∧ wr.ownsMap Tryz.prog 3 unitR bd (nd + (Maps.size Ds - cnt)) Dout ∧ (∀ x, Maps.has Dout (.int .i64 x) = (Fd x || (Fs x && !left (.int .i64 x)))) ∧ w.grownBy wr (some bd))
    (fun _ wr => wr.rangeLeft bs w.heap.size)
  case atStart =>
    exact ⟨_, _, Dd, hrg0, Nat.le_refl _, (hd.kept hg0 (by simp)).mono (by omega), fun x => by rw [hFd x, hFs x]; cases Fd x <;> cases Fs x <;> rfl, hg0.but _⟩
  case round =>
    obtain ⟨left, cnt, Dout, hrg, hcs, hout, hM, hgw⟩ := hrel
    go_wp2_with (first
      | (at_next; refine wpList_next_ranges _ rfl _ rfl 3 Tryz.keyLawS unitR (Value.int .i64) (fun _ : Unit => .agg #[]) (fun key kl hk => by obtain ⟨x, hx, _⟩ := Maps.keyOf_i64 Tryz.underlying3 hk; exact ⟨x, hx⟩) (fun v y hv => ⟨(), (unitR_inv hv).1⟩) bs w.heap.size ns _ _ _ rfl hrg ?_ ?_)
      | go_in)
    · intro hc0 hl0
      go_wp2
      go_end0
      subst hc0
      exact ⟨rfl, ⟨Dout, hout.mono (by omega), fun x => by rw [hM x, hl0]; simp⟩, (Turns.refl _ w).grown hgw (fun g e _ => by injection e with e; exact e.symm)⟩
    · intro x c kl y w1 cnt1 hkey hlx hv hat hrg1 hlt hg1 hs1 hen
      have hout1 := hout.kept hg1 (fun e => by have := Option.some.inj e; omega)
      obtain ⟨x', ex, rfl, hwf⟩ := Maps.keyOf_i64 Tryz.underlying3 hkey
      have hxx : x = x' := by injection ex
      subst hxx
      have hg1' := hg1
      have hout2 : (w1.alloc (.cells #[] 76)).ownsMap Tryz.prog 3 unitR bd (nd + (Maps.size Ds - cnt)) Dout := by
        have hl1 := hout1.lt
        obtain ⟨es, clock, hb, r⟩ := hout1
        exact ⟨es, clock, (heap_alloc_old w1 _ bd hl1).trans hb, r⟩
      obtain ⟨w2, hrun, hout3, hg2⟩ := hout2.update Tryz.keyLawS Tryz.underlying53 (by unfold maxLen; omega) hkey unitR_mk
      have hg3 : w1.grownBy w2 (some bd) := (World.grownBy_alloc w1 (.cells #[] 76) (some bd)).trans hg2
      go_wp2_with go_in
      have hrg2 := hrg1.kept hg3 (fun e => hne (Option.some.inj e).symm) (fun e => by have := Option.some.inj e; omega)
      have hFx : Fs x = true := by rw [← hFs x]; exact has_true_of_atKey hat
      refine ⟨⟨_, cnt1, _, hrg2, by omega, hout3.mono (by omega), fun z => ?_, (hgw.andThen hg1 (fun j hj => .inl (by cases hj; exact Nat.le_refl _))).andThen hg3 (fun j hj => .inr hj)⟩, ?_⟩
      · by_cases e : z = x
        · subst e
          rw [has_put_same hout2.isMap (k := .int .i64 z) trivial]
          simp [hFx, Lit.sameKey]
        · rw [has_put_other (ikey_ne e), hM z]
          simp [Lit.sameKey, e]
      · rw [hrg2.left_eq, hrg.left_eq]; exact hlt
set_option maxRecDepth 100000 in
theorem lremove_any (w0 w : World) (q n : Nat) (F : Int → Bool) (ps : List Int) (v : Value) (h : Ls w q n F) (hp : PIn w0 v ps) (hw : Below w0.heap.size w0 w) (hq0 : w0.heap.size ≤ q) (hb : ∀ p ∈ ps, b64 p) :
    Calls Tryz.prog 60 #[.map (some q), v] w fun e w' => e = .returned (.tuple #[]) ∧ Ls w' q n (fun x => F x && !ps.contains x) ∧ Turns (fun g => g = q) w w' := by
  obtain ⟨A, c, rfl⟩ := hp.read
  have hlen := hp.len
  obtain ⟨L, hL⟩ : ∃ x, ps.length = x := ⟨_, rfl⟩
  have hL' := Lib.hid hL
  rw [hL] at hp hlen ⊢
  have hq := h.lt
  have hp' := Lib.hid hp
  have hb' := Lib.hid hb
  have h' := Lib.hid h
  clear hL hp hb h
  go_enter Tryz.func60, Tryz.ntmps60
  go_wp2_with fail
  go_loopw [8] (fun i wr => ∃ (j : Nat), j ≤ L ∧ i = .int .i64 j ∧ Ls wr q n (fun x => F x && !(ps.take j).contains x) ∧ Turns (fun g => g = q) w wr) (fun i _ => L - (RowKit.intOf i).toNat)
  case atStart => exact ⟨0, Nat.zero_le _, rfl, by simpa using h'.out, Turns.refl _ _⟩
  case round =>
    obtain ⟨j, hj, rfl, hLr, hTr⟩ := hrel
    by_cases hlt : j < L
    · have hx : ps[j]? = some (ps[j]'(by rw [hL'.out]; exact hlt)) := List.getElem?_eq_getElem _
      obtain ⟨x, hxe⟩ : ∃ x, ps[j]'(by rw [hL'.out]; exact hlt) = x := ⟨_, rfl⟩
      rw [hxe] at hx
      have hbx : b64 x := hb'.out x (List.mem_of_getElem? hx)
      obtain ⟨b, o, rfl, hb0, p0⟩ := hp'.out.cell hx
      have p1 : wr.cell? ⟨b, o + j, none⟩ = some (.int .i64 x) := ((hw.trans (hTr.below hw.size (fun g hg => by omega))).cell (p := ⟨b, o + j, none⟩) hb0).trans p0
      obtain ⟨w2, hrun, hL2, hT2⟩ := hLr.drop (a := x) (by unfold b64 at hbx; simp [Lit.wf, IntKind.min, IntKind.max, IntKind.signed, IntKind.bits]; omega) 0
      have e2 : lput (fun x => F x && !(ps.take j).contains x) x false = fun x => F x && !(ps.take (j + 1)).contains x := by
        funext y
        unfold lput
        rw [List.take_add_one, hx]
        by_cases e : y = x
        · simp [e]
        · simp [e]
      rw [e2] at hL2
      have R2 := Lib.hid (And.intro hL2 (hTr.then hT2 (fun _ _ h => h)))
      clear hL2 hT2 hLr hTr hx hxe e2 p0
      go_wp2_with fail
      go_roundw
      case rel => exact ⟨j + 1, by omega, by go_num, R2.out.1, R2.out.2⟩
      case measure => simp [RowKit.intOf]; omega
    · obtain rfl : j = L := by omega
      have hall : ps.take j = ps := by rw [← hL'.out]; exact List.take_length
      rw [hall] at hLr
      have R2 := Lib.hid (And.intro hLr hTr)
      clear hLr hTr hall
      go_wp2_with fail
      go_end0
      exact ⟨rfl, R2.out.1, R2.out.2⟩
end Go.Proofs.YtpiekdcbjkgipaaGreat

/- Package scope: addSet, the locals that are set in a term. -/
namespace Go.Proofs.YtpiekdcbjkgipaaGreat
open Go.ChangeShapes Go.WideShapes Go.ChangeAt Go.RowKit Go.Deep
open TM (Tl Tm)

set_option maxRecDepth 100000 in
theorem ladd_any (w : World) (q n : Nat) (F : Int → Bool) (a : Int) (h : Ls w q n F) (hn : n ≤ 1000000000) (ha : b64 a) :
    Calls Tryz.prog 44 #[.map (some q), .int .i64 a] w fun e w' => e = .returned (.tuple #[]) ∧ Ls w' q (n + 1) (lput F a true) ∧ Turns (fun g => g = q) w w' := by
  obtain ⟨w1, hrun, h1, hT⟩ := h.put hn (a := a) (by unfold b64 at ha; simp [Lit.wf, IntKind.min, IntKind.max, IntKind.signed, IntKind.bits]; omega)
  go_enter Tryz.func44, Tryz.ntmps44
  go_wp2_with fail
  go_end0
  exact ⟨rfl, h1, hT⟩
/-- those of F and of l -/
def orl (F : Int → Bool) (l : List Int) : Int → Bool := fun y => F y || l.contains y
theorem orl_nil (F : Int → Bool) : orl F [] = F := by funext y; simp [orl]
theorem orl_app (F : Int → Bool) (l m : List Int) : orl (orl F l) m = orl F (l ++ m) := by
  funext y
  simp only [orl, List.contains_eq_any_beq, List.any_append, Bool.or_assoc]
theorem lput_orl (F : Int → Bool) (a : Int) : lput F a true = orl F [a] := by
  funext y
  unfold lput orl
  by_cases e : y = a
  · simp [e]
  · simp [e]
def AdOk (t : Tm) : Prop := ∀ (w0 w : World) (q n : Nat) (F : Int → Bool) (vp vi vk : Value), TmIn w0 t vp vi vk → TmBd t → Below w0.heap.size w0 w → w0.heap.size ≤ q → Ls w q n F → n + TM.sz t.ks + 1 ≤ 1000000 →
  Calls Tryz.prog 24 #[.map (some q), tmv t vp vi vk] w fun e w' => e = .returned (.tuple #[]) ∧ Ls w' q (n + TM.sz t.ks + 1) (orl F (SC.st1 t)) ∧ Turns (fun g => g = q) w w'
set_option maxRecDepth 100000 in
set_option maxHeartbeats 8000000 in
theorem ad_step (k n : Int) (s : List UInt8) (ps : List Int) (d : RM.Dm) (ks : Tl) (hR : ∀ i x, ks.at_ i = some x → AdOk x) : AdOk ⟨k, n, s, ps, d, ks⟩ := by
  intro w0 w q m F vp vi vk hT hB hb hq hL hsz
  obtain ⟨P3, p3, rfl⟩ := hT.p.read
  obtain ⟨I7, q7, rfl⟩ := hT.d.read
  obtain ⟨A1, c1, rfl⟩ := hT.k.read
  have hTk := hT.k
  have hBk := hB.ks
  have hBn := hB.n
  have hlen := hTk.len
  simp only at hTk hBk hBn hsz hlen ⊢
  obtain ⟨N, hN⟩ : ∃ N, ks.len = N := ⟨_, rfl⟩
  obtain ⟨L3, hL3⟩ : ∃ x, ps.length = x := ⟨_, rfl⟩
  obtain ⟨L7, hL7⟩ : ∃ x, d.is.len = x := ⟨_, rfl⟩
  have hkl := TM.len_sz ks
  unfold tmv
  simp only
  rw [hN] at hTk hlen ⊢
  rw [hL3, hL7]
  have hwq := hb.size
  have hM := Lies.made w 28 #[.int .i64 k, .int .i64 n, .string ⟨s.toArray⟩, .slice P3 L3 p3, .int .i64 d.k, .int .i64 d.n, .string ⟨d.s.toArray⟩, .slice I7 L7 q7, .slice A1 N c1]
  obtain ⟨W1, hW1⟩ : ∃ W1, w.alloc (.cells #[.int .i64 k, .int .i64 n, .string ⟨s.toArray⟩, .slice P3 L3 p3, .int .i64 d.k, .int .i64 d.n, .string ⟨d.s.toArray⟩, .slice I7 L7 q7, .slice A1 N c1] 28) = W1 := ⟨_, rfl⟩
  have hba : Below w.heap.size w W1 := by rw [← hW1]; exact (Below.refl _ w).alloc (Nat.le_refl _) _
  rw [hW1] at hM
  have hL1 := hL.below hba
  have hqw := hL.lt
  have x0 : W1.cell? ⟨w.heap.size, 0, none⟩ = some (.int .i64 k) := hM.cell 0
  have x1 : W1.cell? ⟨w.heap.size, 1, none⟩ = some (.int .i64 n) := hM.cell 1
  have x8 : W1.cell? ⟨w.heap.size, 8, none⟩ = some (.slice A1 N c1) := hM.cell 8
  have hN' := Lib.hid hN
  have hR' := Lib.hid hR
  have hsz' := Lib.hid hsz
  have hlen' := Lib.hid hlen
  have hA := Lib.hid (ladd_any W1 q m F n hL1 (by omega) hBn)
  have hL1' := Lib.hid hL1
  have hM' := Lib.hid hM
  have hTa := Lib.hid (Turns.of_below hba (fun g => g = q))
  clear hL hN hL3 hL7 hR hT hB hsz hL1 hM hba hBn
  go_enter Tryz.func24, Tryz.ntmps24
  go_upto_if 8 with fail
  go_cut [9] from 8 to 12 (fun _ wx => Hid (Ls wx q (m + 1) (orl F (if k = 4 then [n] else []))) ∧ Lies wx w.heap.size 28 [.int .i64 k, .int .i64 n, .string ⟨s.toArray⟩, .slice P3 L3 p3, .int .i64 d.k, .int .i64 d.n, .string ⟨d.s.toArray⟩, .slice I7 L7 q7, .slice A1 N c1] ∧ Turns (fun g => g = q) w wx)
  case first =>
    by_cases h4 : k = 4
    · have h4' := Lib.hid h4
      have e4 : (k == 4) = true := by simp [h4]
      clear h4
      go_wp2_with (
        go_at_call 44
        refine hA.out.mono ?_
        rintro e w3 ⟨rfl, hL3, hT3⟩
        have hM3 := hM'.out.turns hT3 (fun e => hL1'.out.apart hM'.out e.symm)
        have hT4 := hTa.out.then hT3 (fun _ _ h => h)
        have hL3' := Lib.hid hL3
        clear hL3 hT3)
      go_meet
      case rel => exact ⟨Lib.hid (by rw [if_pos h4'.out, ← lput_orl]; exact hL3'.out), hM3, hT4⟩
    · have h4' := Lib.hid h4
      have e4 : (k == 4) = false := by simp [h4]
      clear h4
      go_wp2_with fail
      go_meet
      case rel => exact ⟨Lib.hid (by rw [if_neg h4'.out, orl_nil]; exact hL1'.out.mono (by omega)), hM'.out, hTa.out⟩
  case rest =>
  obtain ⟨hLc, hMc, hTc⟩ := hcut
  have hlt := hMc.lt
  have y8 : wc.cell? ⟨w.heap.size, 8, none⟩ = some (.slice A1 N c1) := hMc.cell 8
  have hbc := hb.trans (hTc.below hb.size (fun g hg => by omega))
  clear x0 x1 x8 hA hL1' hM' hTa hW1
  generalize hP : (if k = 4 then [n] else []) = P1 at hLc
  have hP' := Lib.hid hP
  clear hP
  have hqn : q ≠ w.heap.size := fun e => hLc.out.apart hMc e
  go_wp2_with fail
  go_loopw [16] (fun i wr => ∃ (j : Nat), j ≤ N ∧ i = .int .i64 j ∧ Ls wr q (m + 1 + TM.sz (ks.tk j)) (orl F (P1 ++ SC.stl (ks.tk j))) ∧ Turns (fun g => g = q) w wr) (fun i _ => N - (RowKit.intOf i).toNat)
  case atStart => exact ⟨0, Nat.zero_le _, rfl, by rw [Tl.tk_zero]; simpa [TM.sz, SC.stl] using hLc.out, hTc⟩
  case round =>
    obtain ⟨j, hj, rfl, hLr, hTr⟩ := hrel
    by_cases hlt : j < N
    · obtain ⟨x, hx⟩ := ks.at_some j (by rw [hN'.out]; exact hlt)
      obtain ⟨b, o, P5, p5, I5, q5, K5, r5, rfl, hb0, c10, c11, c12, c13, c14, c15, c16, c17, c18, hT5⟩ := hTk.at_ hx
      have hbr := hb.trans (hTr.below hb.size (fun g hg => by omega))
      have ce : ∀ o, wr.cell? ⟨b, o, none⟩ = w0.cell? ⟨b, o, none⟩ := fun o => hbr.cell (p := ⟨b, o, none⟩) hb0
      rw [← ce] at c10 c11 c12 c13 c14 c15 c16 c17 c18
      have hup := TM.sz_in hx
      have htk := Tl.tk_snoc ks j x hx
      have hle := TM.sz_tk ks (j + 1)
      have hsz2 : TM.sz (ks.tk (j + 1)) = TM.sz (ks.tk j) + (TM.sz x.ks + 1) := by have h1 := TM.sz_tk ks j; have h2 := TM.sz_at hx; omega
      obtain ⟨W5, hW5⟩ : ∃ W5, wr.alloc (.cells #[.int .i64 x.k, .int .i64 x.n, .string ⟨x.s.toArray⟩, .slice P5 x.ps.length p5, .int .i64 x.d.k, .int .i64 x.d.n, .string ⟨x.d.s.toArray⟩, .slice I5 x.d.is.len q5, .slice K5 x.ks.len r5] 28) = W5 := ⟨_, rfl⟩
      have hk5 : Below wr.heap.size wr W5 := by rw [← hW5]; exact (Below.refl _ wr).alloc (Nat.le_refl _) _
      have hb5 := hbr.trans (hk5.mono hbr.size)
      have hC := Lib.hid (hR'.out j x hx w0 W5 q _ _ _ _ _ hT5 (hBk.at_ hx) hb5 hq (hLr.below hk5) (by have := hsz'.out; omega))
      unfold tmv at hC
      have htk' := Lib.hid htk
      have hsz2' := Lib.hid hsz2
      have hT6 := Lib.hid (hTr.then (Turns.of_below hk5 (fun _ => False)) (fun _ _ h => h.elim))
      have hM5 : Lies W5 wr.heap.size 28 [.int .i64 x.k, .int .i64 x.n, .string ⟨x.s.toArray⟩, .slice P5 x.ps.length p5, .int .i64 x.d.k, .int .i64 x.d.n, .string ⟨x.d.s.toArray⟩, .slice I5 x.d.is.len q5, .slice K5 x.ks.len r5] := by
        rw [← hW5]; exact Lies.made _ _ _
      have z0 : W5.cell? ⟨wr.heap.size, 0, none⟩ = some (.int .i64 x.k) := hM5.cell 0
      have z1 : W5.cell? ⟨wr.heap.size, 1, none⟩ = some (.int .i64 x.n) := hM5.cell 1
      have z2 : W5.cell? ⟨wr.heap.size, 2, none⟩ = some (.string ⟨x.s.toArray⟩) := hM5.cell 2
      have z3 : W5.cell? ⟨wr.heap.size, 3, none⟩ = some (.slice P5 x.ps.length p5) := hM5.cell 3
      have z4 : W5.cell? ⟨wr.heap.size, 4, none⟩ = some (.int .i64 x.d.k) := hM5.cell 4
      have z5 : W5.cell? ⟨wr.heap.size, 5, none⟩ = some (.int .i64 x.d.n) := hM5.cell 5
      have z6 : W5.cell? ⟨wr.heap.size, 6, none⟩ = some (.string ⟨x.d.s.toArray⟩) := hM5.cell 6
      have z7 : W5.cell? ⟨wr.heap.size, 7, none⟩ = some (.slice I5 x.d.is.len q5) := hM5.cell 7
      have z8 : W5.cell? ⟨wr.heap.size, 8, none⟩ = some (.slice K5 x.ks.len r5) := hM5.cell 8
      clear hM5 hk5 hb5 hLr hTr hT5 hx hup htk hsz2 hle hbr ce y8 hMc hTc hLc
      go_wp2_with (
        go_at_call 24
        refine hC.out.mono ?_
        rintro e w7 ⟨rfl, hL7, hT7⟩
        have R7 := Lib.hid (And.intro hL7 (hT6.out.then hT7 (fun _ _ h => h)))
        clear hL7 hT7)
      go_roundw
      case rel => exact ⟨j + 1, by omega, by go_num, by
        have := R7.out.1
        rw [orl_app, List.append_assoc, ← SC.stl_snoc, ← htk'.out] at this
        have e : m + 1 + TM.sz (ks.tk (j + 1)) = m + 1 + TM.sz (ks.tk j) + TM.sz x.ks + 1 := by rw [hsz2'.out]; omega
        rw [e]
        exact this, R7.out.2⟩
      case measure => simp [RowKit.intOf]; omega
    · obtain rfl : j = N := by omega
      have hall : ks.tk j = ks := by rw [← hN'.out]; exact Tl.tk_all ks
      rw [hall] at hLr
      have R7 := Lib.hid (And.intro hLr hTr)
      clear hLr hTr hTc hLc hMc y8
      go_wp2_with fail
      go_end0
      exact ⟨rfl, by
        have := R7.out.1
        rw [← hP'.out] at this
        rw [show m + TM.sz ks + 1 = m + 1 + TM.sz ks by omega]
        exact this, R7.out.2⟩
theorem ladds_any (t : Tm) : AdOk t := Tl.all_one _ ad_step t
end Go.Proofs.YtpiekdcbjkgipaaGreat
