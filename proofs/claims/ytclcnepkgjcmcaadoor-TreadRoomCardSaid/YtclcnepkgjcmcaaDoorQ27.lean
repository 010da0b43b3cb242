/- The laws' own world: begin. -/
import Derived.Test.YtclcnepkgjcmcaaDoorQ25
import Derived.Test.YtclcnepkgjcmcaaDoorQ26
import Derived.Laws.IdiomRangeMap
import Derived.Maps.RangeRun
import Derived.LaidEql
namespace Go.Proofs.YtclcnepkgjcmcaaDoor
open Go.RowKit

theorem wcells_reg (q : Nat) (blk : Nat → Nat) (reg : Nat → V) (al : Value) (bad full : Bool) (r : Nat) (hr : r < 8) (x : Int) :
    ((wcells q blk reg al bad full).set (1 + 2 * r) (.int .u64 x)).set (1 + 2 * r + 1) (.pointer none) = wcells q blk (fun k => if k = r then .w x else reg k) al bad full :=
  wcells_set q blk reg al bad full r hr (.w x)
theorem wcells_congr {q : Nat} {blk : Nat → Nat} {reg reg' : Nat → V} {al : Value} {bad full : Bool} (h : ∀ r, r < 8 → reg r = reg' r) : wcells q blk reg al bad full = wcells q blk reg' al bad full := by
  unfold wcells rcells
  rw [h 0 (by omega), h 1 (by omega), h 2 (by omega), h 3 (by omega), h 4 (by omega), h 5 (by omega), h 6 (by omega), h 7 (by omega)]

set_option maxHeartbeats 1000000 in
set_option maxRecDepth 100000 in
theorem begin_any {G : Geo} (g : G.ok) (blk : Nat → Nat) (w : World) (hT : Tab w) :
    Calls Tryd.prog 6 #[.agg #[.int .i64 G.n.a, .int .i64 G.n.b, .int .i64 G.n.c, .int .i64 G.n.d, .int .i64 G.k]] w fun e w' => ∃ x q p b : Nat, e = .returned (.pointer (some ⟨x, 0, none⟩)) ∧
      Lies w' x 43 (wcells q blk (fun _ => .w 12) (.slice none 0 0) false false) ∧ Tr w' q p b G G.fresh ∧ Below w.heap.size w w' ∧ w.heap.size ≤ x ∧ w.heap.size ≤ q ∧ w.heap.size ≤ p ∧ w.heap.size ≤ b ∧ ¬ Own3 q p b x ∧ x < w'.heap.size := by
  have NW := Lib.hid (fun w1 ht => new_yes G g w1 ht)
  have VD := Lib.hid (fun w => void_any w)
  have hlt0 : 0 < w.heap.size := hT.1
  have ht1 : Tab (w.alloc (.cells #[.int .i64 G.n.a, .int .i64 G.n.b, .int .i64 G.n.c, .int .i64 G.n.d, .int .i64 G.k] 29)) := hT.turns ((Turns.refl (fun _ => False) w).alloc _) (fun h => h)
  generalize G.n.a = na at *
  generalize G.n.b = nb at *
  generalize G.n.c = nc at *
  generalize G.n.d = nd at *
  generalize G.k = gk at *
  go_enter Tryd.func6, Tryd.ntmps6
  go_wp2_with (
    go_at_call 10
    refine (NW.out _ ht1).mono ?_
    rintro e w1 ⟨q, p, b, rfl, hs1, hb1, hq, hp, hbb⟩)
  have hb2 : Below w.heap.size w w1 := ((Below.refl w.heap.size w).alloc (Nat.le_refl _) _).trans (hb1.mono (by simp))
  have hq1 := hs1.lt
  have hx0 : Lies (w1.alloc (.cells (wcells q blk (fun _ => .w 0) (.slice none 0 0) false false).toArray 43)) w1.heap.size 43 (wcells q blk (fun k => if k < 0 then .w 12 else .w 0) (.slice none 0 0) false false) := by
    have := Lies.made w1 43 (wcells q blk (fun _ => .w 0) (.slice none 0 0) false false).toArray
    simpa using this
  have hs2 : Tr (w1.alloc (.cells (wcells q blk (fun _ => .w 0) (.slice none 0 0) false false).toArray 43)) q p b G G.fresh := hs1.turns ((Turns.refl (fun _ => False) w1).alloc _) (fun h => h) (fun h => h) (fun h => h) (fun h => h)
  have hb3 := hb2.alloc hb2.size (.cells (wcells q blk (fun _ => .w 0) (.slice none 0 0) false false).toArray 43)
  have hsz := hb2.size
  have hxo : ¬ Own3 q p b w1.heap.size := fun h => by unfold Own3 at h; omega
  simp at hq hp hbb
  clear hb1 hb2 hs1 NW ht1 hT
  generalize hxx : w1.heap.size = x at *
  go_loopw [24] (fun v wr => ∃ c : Nat, c ≤ 8 ∧ v = .int .i64 c ∧ Lies wr x 43 (wcells q blk (fun k => if k < c then .w 12 else .w 0) (.slice none 0 0) false false) ∧ Tr wr q p b G G.fresh ∧ Below w.heap.size w wr) (fun v _ => 8 - (intOf v).toNat)
  case atStart => exact ⟨0, by omega, rfl, hx0, hs2, hb3⟩
  case round =>
    obtain ⟨c, hc, rfl, hx, hs, hb⟩ := hrel
    by_cases hc8 : c < 8
    · have hl : (wcells q blk (fun k => if k < c then .w 12 else .w 0) (.slice none 0 0) false false).length = 20 := rfl
      obtain ⟨u1, e1⟩ : ∃ u, (wcells q blk (fun k => if k < c then .w 12 else .w 0) (.slice none 0 0) false false)[1 + c * 2]? = some u := ⟨_, List.getElem?_eq_getElem (by rw [hl]; omega)⟩
      obtain ⟨u2, e2⟩ : ∃ u, (wcells q blk (fun k => if k < c then .w 12 else .w 0) (.slice none 0 0) false false)[1 + c * 2 + 1]? = some u := ⟨_, List.getElem?_eq_getElem (by rw [hl]; omega)⟩
      have c1 := (hx.cell (1 + c * 2)).trans e1
      have c2 := (hx.cell (1 + c * 2 + 1)).trans e2
      have f1 := hx.free (1 + c * 2)
      have f2 := hx.free (1 + c * 2 + 1)
      have i1 : (1 + c * 2 + 1 = 1 + c * 2) = False := by simp
      have c0 : (0 : Int) ≤ (c : Int) := by omega
      have c8 : (c : Int) < 8 := by omega
      go_wp2_with fail
      go_region_with (first
        | (go_at_call 14; refine (VD.out _).mono ?_; rintro e w' ⟨rfl, rfl⟩))
      all_goals
        have hx4 := ((hx.stored (1 + c * 2) (.int .u64 12)).stored (1 + c * 2 + 1) (.pointer none)).drew
        rw [show 1 + c * 2 = 1 + 2 * c by omega, wcells_reg q blk _ (.slice none 0 0) false false c hc8 12, wcells_congr (reg' := fun k => if k < c + 1 then .w 12 else .w 0) (fun k _ => by
          show (if k = c then V.w 12 else if k < c then V.w 12 else V.w 0) = if k < c + 1 then V.w 12 else V.w 0
          by_cases e : k = c
          · rw [if_pos e, if_pos (by omega)]
          · by_cases e2 : k < c
            · rw [if_neg e, if_pos e2, if_pos (by omega)]
            · rw [if_neg e, if_neg e2, if_neg (by omega)]), show 1 + 2 * c = 1 + c * 2 by omega] at hx4
        have ht4 : Turns (fun k => k = x) wr (((wr.setCell ⟨x, 1 + c * 2, none⟩ (.int .u64 12)).setCell ⟨x, 1 + c * 2 + 1, none⟩ (.pointer none))).drew :=
          (((Turns.refl (fun k => k = x) wr).setCell (p := ⟨x, 1 + c * 2, none⟩) (fun _ => rfl) _).setCell (p := ⟨x, 1 + c * 2 + 1, none⟩) (fun _ => rfl) _).drew
        have hs4 := hs.turns ht4 (fun e => hxo (e ▸ .inl rfl)) (fun e => hxo (e ▸ .inr (.inl rfl))) (fun e => hxo (e ▸ .inr (.inr rfl))) (by omega)
        have hb4 := hb.trans (ht4.below hb.size (fun k hk => by omega))
        clear c1 c2 f1 f2 e1 e2 i1 hl
        generalize (((wr.setCell ⟨x, 1 + c * 2, none⟩ (.int .u64 12)).setCell ⟨x, 1 + c * 2 + 1, none⟩ (.pointer none))).drew = W4 at *
        go_wp2_with fail
        go_roundw
        case rel => exact ⟨c + 1, by omega, by go_num, hx4, hs4, hb4⟩
        case measure => simp [intOf]; omega
    · have e8 : c = 8 := by omega
      rw [wcells_congr (reg' := fun _ => .w 12) (fun k hk => if_pos (by omega))] at hx
      have hxl := hx.lt
      go_wp2_with fail
      go_ret
      exact ⟨x, q, p, b, rfl, hx, hs, hb, hsz, by omega, by omega, by omega, hxo, hxl⟩
end Go.Proofs.YtclcnepkgjcmcaaDoor

/- The laws' own small calls: reg, long. -/
namespace Go.Proofs.YtclcnepkgjcmcaaDoor
open Go.RowKit

theorem u_eight (n : Int) : wrap64 ((IntKind.u64.wrap n).tmod 8) = n % 18446744073709551616 % 8 := by
  rw [IntKind.wrap_u64, Int.tmod_eq_emod_of_nonneg (by omega)]
  have a := Int.emod_nonneg (n % 18446744073709551616) (show (8 : Int) ≠ 0 by omega)
  have b := Int.emod_lt_of_pos (n % 18446744073709551616) (show (0 : Int) < 8 by omega)
  unfold wrap64
  omega
theorem reg_any (n : Int) (w : World) : Calls Tryd.prog 20 #[.int .i64 n] w fun e w' => e = .returned (.int .i64 (n % 18446744073709551616 % 8)) ∧ w = w' := by
  have hu := u_eight n
  generalize n % 18446744073709551616 % 8 = r at *
  go_enter Tryd.func20, Tryd.ntmps20
  go_wp2
  go_ret
  exact ⟨ret_i hu, rfl⟩
theorem long_any (A : Option Addr) (n c : Nat) (w : World) (hn : n ≤ maxLen) : Calls Tryd.prog 5 #[.slice A n c] w fun e w' => e = .returned (.bool (decide ((n : Int) > 300))) ∧ w = w' := by
  unfold maxLen at hn
  by_cases h : n ≤ 300
  · have e : decide ((n : Int) > 300) = false := by simp; omega
    rw [e]
    go_enter Tryd.func5, Tryd.ntmps5
    go_wp2
    go_ret
    exact ⟨rfl, rfl⟩
  · have e : decide ((n : Int) > 300) = true := by simp; omega
    rw [e]
    go_enter Tryd.func5, Tryd.ntmps5
    go_wp2
    go_ret
    exact ⟨rfl, rfl⟩
end Go.Proofs.YtclcnepkgjcmcaaDoor

/- A map from pointers to bools that the law itself has made: its keys, in the order in which they were put. -/
namespace Go.Proofs.YtclcnepkgjcmcaaDoor
open Go.RowKit

def ent (b i : Nat) : MapEntry := { key := .pointer (some ⟨b, 0, none⟩), val := .bool true, born := i }
/-- the entries of the keys, from the clock n on -/
def entsFrom : List Nat → Nat → List MapEntry
  | [], _ => []
  | b :: l, n => ent b n :: entsFrom l (n + 1)
/-- block g is a map of just these keys -/
def PMap (w : World) (g : Nat) (ks : List Nat) : Prop := w.heap[g]? = some (.map (entsFrom ks 0).toArray ks.length)

section
variable {w w' : World} {g : Nat} {ks : List Nat} {X : Nat → Prop}
theorem PMap.made (w : World) : PMap (w.alloc (.map #[] 0)) w.heap.size [] := heap_alloc_new w _
theorem PMap.lt (h : PMap w g ks) : g < w.heap.size := by
  unfold PMap at h
  by_cases hg : g < w.heap.size
  · exact hg
  · rw [Array.getElem?_eq_none (by omega)] at h
    cases h
theorem PMap.turns (h : PMap w g ks) (k : Turns X w w') (hx : ¬ X g) : PMap w' g ks := (k.block g h.lt hx).trans h
theorem PMap.apart {b : Nat} {t : TypeId} {cs : List Value} (h : PMap w g ks) (k : Lies w b t cs) : g ≠ b := by
  intro e
  subst e
  unfold PMap at h
  unfold Lies at k
  rw [h] at k
  cases k
theorem run_equalIn_ptr (w : World) (d : Nat) {a b : Nat} {ta tb : TypeId} {ca cb : List Value} (ha : Lies w a ta ca) (hb : Lies w b tb cb) : (Op.equalIn (d + 1) 37 (.pointer (some ⟨a, 0, none⟩)) (.pointer (some ⟨b, 0, none⟩))).run Tryd.prog w = .ok (a == b) w := by
  have hi : (Tryd.prog.info? 64).map (·.size) = some 3 := by kernel_rfl
  obtain ⟨i, hi1, hi2⟩ := Option.map_eq_some_iff.1 hi
  have hu := run_underlying (P := Tryd.prog) (w := w) Tryd.underlying37
  simp only [Op.equalIn, Sem.run_bind, hu, Result.andThen_ok, sizeOf, typeInfo, run_program, hi1, hi2, Sem.run_pure]
  by_cases e : a = b
  · subst e
    simp [run_sameAddr_same]
  · have := run_sameAddr_other (P := Tryd.prog) (w := w) (a := ⟨a, 0, none⟩) (b := ⟨b, 0, none⟩) (fun h => e (by injection h)) ha hb
    simp [this, e]
theorem run_equal_ptr (w : World) {a b : Nat} {ta tb : TypeId} {ca cb : List Value} (ha : Lies w a ta ca) (hb : Lies w b tb cb) : (Op.equal 37 (.pointer (some ⟨a, 0, none⟩)) (.pointer (some ⟨b, 0, none⟩))).run Tryd.prog w = .ok (a == b) w := run_equalIn_ptr w 9999 ha hb
/-- the keys of the map are blocks of things -/
def Thingy (w : World) (ks : List Nat) : Prop := ∀ b ∈ ks, ∃ c, Lies w b 64 c
theorem run_find_ptr (w : World) {b : Nat} {c : List Value} (hb : Lies w b 64 c) : ∀ (ks : List Nat) (n i : Nat), Thingy w ks →
    ∃ r, (Instr.findAsking 37 (.pointer (some ⟨b, 0, none⟩)) (entsFrom ks n) i).run Tryd.prog w = .ok r w ∧ (b ∈ ks → ∃ j, r = some (j, .bool true)) ∧ (b ∉ ks → r = none)
  | [], n, i, _ => ⟨none, rfl, (fun h => by cases h), fun _ => rfl⟩
  | k :: l, n, i, h => by
    obtain ⟨ck, hk⟩ := h k (by simp)
    have he := run_equal_ptr w hb hk
    unfold entsFrom Instr.findAsking
    simp only [Sem.run_bind, ent, he, Result.andThen_ok]
    by_cases e : b = k
    · subst e
      simp [Sem.run_pure]
    · obtain ⟨r, hr, h1, h2⟩ := run_find_ptr w hb l (n + 1) (i + 1) (fun x hx => h x (by simp [hx]))
      have e' : (b == k) = false := by simpa using e
      refine ⟨r, ?_, fun hm => h1 (by simpa [e] using hm), fun hm => h2 (fun hx => hm (by simp [hx]))⟩
      rw [e']
      simpa using hr
theorem run_findKey_ptr (w : World) {b : Nat} {c : List Value} (hb : Lies w b 64 c) (ks : List Nat) (h : Thingy w ks) :
    ∃ r, (Instr.findKey 37 (.pointer (some ⟨b, 0, none⟩)) (entsFrom ks 0)).run Tryd.prog w = .ok r w ∧ (b ∈ ks → ∃ j, r = some (j, .bool true)) ∧ (b ∉ ks → r = none) := by
  have hu := run_underlying (P := Tryd.prog) (w := w) Tryd.underlying37
  cases ks with
  | nil => exact ⟨none, by simp [Instr.findKey, hu, entsFrom, Instr.findNow], (fun h => by cases h), fun _ => rfl⟩
  | cons k l =>
    obtain ⟨r, hr, h1, h2⟩ := run_find_ptr w hb (k :: l) 0 0 h
    refine ⟨r, ?_, h1, h2⟩
    unfold Instr.findKey
    simp only [Sem.run_bind, hu, Result.andThen_ok]
    exact hr
theorem run_checkKey_ptr (w : World) (e : Bool) (d b : Nat) : (Instr.checkKey e (d + 1) 37 (.pointer (some ⟨b, 0, none⟩))).run Tryd.prog w = .ok () w := by
  have hu := run_underlying (P := Tryd.prog) (w := w) Tryd.underlying37
  simp [Instr.checkKey, hu, Sem.run_pure]
/-- out[t] -/
theorem run_lookup_ptr (w : World) {b : Nat} {c : List Value} (hb : Lies w b 64 c) {ks : List Nat} (hm : PMap w g ks) (h : Thingy w ks) :
    (Instr.lookup 33 (.map (some g)) (.pointer (some ⟨b, 0, none⟩)) false).run Tryd.prog w = .ok (.bool (decide (b ∈ ks))) w := by
  have hu := run_underlying (P := Tryd.prog) (w := w) Tryd.underlying33
  obtain ⟨r, hr, h1, h2⟩ := run_findKey_ptr w hb ks h
  have hz : (zeroValue 4).run Tryd.prog w = .ok (.bool false) w := by kernel_rfl
  have hck : ∀ e, (Instr.checkKey e 10000 37 (.pointer (some ⟨b, 0, none⟩))).run Tryd.prog w = .ok () w := fun e => run_checkKey_ptr w e 9999 b
  unfold PMap at hm
  by_cases e : b ∈ ks
  · obtain ⟨j, rfl⟩ := h1 e
    simp [Instr.lookup, hu, getObj, Sem.run, hm, hck, hr, e]
  · rw [h2 e] at hr
    simp [Instr.lookup, hu, getObj, Sem.run, hm, hck, hr, e, hz]
theorem entsFrom_push (b : Nat) : ∀ (ks : List Nat) (n : Nat), entsFrom (ks ++ [b]) n = entsFrom ks n ++ [ent b (n + ks.length)]
  | [], n => rfl
  | k :: l, n => by
    show ent k n :: entsFrom (l ++ [b]) (n + 1) = _
    rw [entsFrom_push b l (n + 1), List.length_cons, show n + 1 + l.length = n + (l.length + 1) by omega]
    rfl
/-- out[t] = true, of a thing that isn't there yet -/
theorem run_put_ptr (w : World) {b : Nat} {c : List Value} (hb : Lies w b 64 c) {ks : List Nat} (hm : PMap w g ks) (h : Thingy w ks) (hn : b ∉ ks) :
    (Instr.mapUpdate 33 (.map (some g)) (.pointer (some ⟨b, 0, none⟩)) (.bool true)).run Tryd.prog w = .ok () (Go.ChangeMaps.setBlock w g (.map (entsFrom (ks ++ [b]) 0).toArray (ks ++ [b]).length)) := by
  have hu := run_underlying (P := Tryd.prog) (w := w) Tryd.underlying33
  obtain ⟨r, hr, -, h2⟩ := run_findKey_ptr w hb ks h
  rw [h2 hn] at hr
  have hck : ∀ e, (Instr.checkKey e 10000 37 (.pointer (some ⟨b, 0, none⟩))).run Tryd.prog w = .ok () w := fun e => run_checkKey_ptr w e 9999 b
  unfold PMap at hm
  rw [entsFrom_push]
  simp [Instr.mapUpdate, hu, getObj, setObj, Sem.run, hm, hck, hr, ent, Go.ChangeMaps.setBlock]
theorem PMap.put (hm : PMap w g ks) (b : Nat) : PMap (Go.ChangeMaps.setBlock w g (.map (entsFrom (ks ++ [b]) 0).toArray (ks ++ [b]).length)) g (ks ++ [b]) := by
  have := hm.lt
  unfold PMap Go.ChangeMaps.setBlock
  simp [this]
theorem Turns.setBlock {a : World} (h : Turns X a w) (hg : g < a.heap.size → X g) (o : Obj) : Turns X a (Go.ChangeMaps.setBlock w g o) :=
  ⟨h.os, h.tape, h.output, by simpa [Go.ChangeMaps.setBlock] using h.size, fun i hi hx => by
    have hne : i ≠ g := fun e => hx (e ▸ hg (e ▸ hi))
    have := h.block i hi hx
    simpa [Go.ChangeMaps.setBlock, Array.getElem?_modify, Ne.symm hne, Array.getElem?_setIfInBounds] using this⟩
end
end Go.Proofs.YtclcnepkgjcmcaaDoor
