/- A map from strings to ints that the call itself has made: how often each name was counted, and how many names there are. (The first part is XEnvMap's.) -/
import Derived.Test.YtpiekdcbjkgipaaGreatDoorMem
import Derived.Test.YtpiekdcbjkgipaaGreatDoorQ42
import Derived.Maps.OwnSet
import Derived.StringKeys
import Derived.Test.YtpiekdcbjkgipaaGreatDoorQ43
import Derived.Test.YtpiekdcbjkgipaaGreatDoorQ41
import Derived.Test.YtpiekdcbjkgipaaGreatDoorQ4
namespace Go.Proofs.YtpiekdcbjkgipaaGreatDoor
open Go.RowKit Go.Maps

theorem Tryz.keyString : Keyed Tryz.prog 9 := string_keyed Tryz.underlying9

/-- how elements of a kind lie and read -/
structure Enc (α : Type) where
  V : α → Value
  E : α → DataW Unit
  dec : Value → Option α
  dv : ∀ a, dec (V a) = some a
  vd : ∀ v a, dec v = some a → v = V a
  inj : ∀ a b, E a = E b → a = b

section
variable {α : Type} {c : Enc α}
def Enc.R (c : Enc α) (v : Value) : Option (DataW Unit × List MemPlace) := (c.dec v).map fun a => (c.E a, [])
theorem Enc.R_mk (c : Enc α) (a : α) : c.R (c.V a) = some (c.E a, []) := by simp [Enc.R, c.dv]
theorem Enc.R_inv {v : Value} {a : α} {ps : List MemPlace} (h : c.R v = some (c.E a, ps)) : v = c.V a := by
  unfold Enc.R at h
  cases hd : c.dec v with
  | none => rw [hd] at h; cases h
  | some b =>
    rw [hd] at h
    simp only [Option.map_some, Option.some.injEq, Prod.mk.injEq] at h
    rw [c.vd v b hd, c.inj b a h.1]

/-- block q is a map of n keys: at the key b it holds S b -/
def Sm (c : Enc α) (w : World) (q n : Nat) (S : ByteArray → Option α) : Prop :=
  ∃ D, w.ownsMap Tryz.prog 9 c.R q n D ∧ Maps.size D = n ∧ ∀ b : ByteArray, Maps.has D (.string b.data.toList) = (S b).isSome ∧ ∀ z, D.atKey (.string b.data.toList) (c.E z) = c.E ((S b).getD z)
variable {w w' : World} {q n : Nat} {S : ByteArray → Option α}
theorem Sm.made (c : Enc α) (w : World) : Sm c (w.alloc (.map #[] 0)) w.heap.size 0 (fun _ => none) :=
  ⟨.map [], World.ownsMap_made w _ _ _, rfl, fun _ => ⟨rfl, fun _ => rfl⟩⟩
theorem Sm.lt (h : Sm c w q n S) : q < w.heap.size := by
  obtain ⟨D, h, _⟩ := h
  exact h.lt
theorem Sm.turns {X : Nat → Prop} (h : Sm c w q n S) (k : Turns X w w') (hx : ¬ X q) : Sm c w' q n S := by
  have hlt := h.lt
  obtain ⟨D, ⟨es, clock, hb, r⟩, hD⟩ := h
  exact ⟨D, ⟨es, clock, (k.block q hlt hx).trans hb, r⟩, hD⟩
theorem Sm.apart {g : Nat} {t : TypeId} {cs : List Value} (h : Sm c w q n S) (k : Lies w g t cs) : q ≠ g := by
  intro e
  subst e
  obtain ⟨D, ⟨es, clock, hb, _⟩, _⟩ := h
  unfold Lies at k
  rw [hb] at k
  cases k
theorem key_of {b : ByteArray} (hb : b.size ≤ maxLen) : keyOf Tryz.prog 9 (.string b) = some (.string b.data.toList) := Go.WideMaps.keyOf_string_mk Tryz.underlying9 hb
/-- m[b] -/
theorem Sm.look (h : Sm c w q n S) {t e : TypeId} (ht : Tryz.prog.underlying t = some (.map 9 e)) {z : α} (hz : ∀ w, (zeroValue e).run Tryz.prog w = .ok (c.V z) w) {b : ByteArray} (hb : b.size ≤ maxLen) :
    (Instr.lookup t (.map (some q)) (.string b) false).run Tryz.prog w = .ok (c.V ((S b).getD z)) w := by
  obtain ⟨D, h1, h2, h3⟩ := h
  obtain ⟨v, ps, hrun, hat⟩ := h1.lookup Tryz.keyString ht (hz w) (c.R_mk z) (key_of hb)
  rw [(h3 b).2 z] at hat
  rw [hrun, Enc.R_inv hat]
/-- len(m) -/
theorem Sm.len (h : Sm c w q n S) {t e : TypeId} (ht : Tryz.prog.underlying t = some (.map 9 e)) (ty : TypeId) :
    (Builtin.len_ #[t] ty #[.map (some q)]).run Tryz.prog w = .ok (.int .i64 n) w := by
  obtain ⟨D, h1, h2, h3⟩ := h
  rw [h1.len ht ty, h2]
theorem lits_ne {a b : ByteArray} (h : a ≠ b) : Lit.string a.data.toList ≠ Lit.string b.data.toList := fun e => h (by
  injection e with e
  cases a; cases b; congr; exact Array.toList_inj.1 e)
def sput (S : ByteArray → Option α) (b : ByteArray) (v : Option α) : ByteArray → Option α := fun y => if y = b then v else S y
theorem isKey_str (l : List UInt8) : WideAt.IsKeyLit (.string l) := trivial
set_option maxRecDepth 100000 in
/-- m[b] = a -/
theorem Sm.put (h : Sm c w q n S) {t e : TypeId} (ht : Tryz.prog.underlying t = some (.map 9 e)) (hn : n ≤ 1000000000) {b : ByteArray} (hb : b.size ≤ maxLen) (a : α) :
    ∃ w', (Instr.mapUpdate t (.map (some q)) (.string b) (c.V a)).run Tryz.prog w = .ok () w' ∧ Sm c w' q (if (S b).isSome = true then n else n + 1) (sput S b (some a)) ∧ Turns (fun g => g = q) w w' := by
  obtain ⟨D, h1, h2, h3⟩ := h
  obtain ⟨w', hrun, hown, hg⟩ := h1.update Tryz.keyString ht (by unfold maxLen; omega) (key_of hb) (c.R_mk a)
  have hs : Maps.size (D.put (.string b.data.toList) (c.E a)) = if (S b).isSome = true then n else n + 1 := by
    rw [size_put (h1.tidy Tryz.keyString), (h3 b).1, h2]
  refine ⟨w', hrun, ⟨D.put (.string b.data.toList) (c.E a), ?_, hs, fun y => ?_⟩, (Turns.refl _ w).grown hg (fun g e _ => by injection e with e; exact e.symm)⟩
  · obtain ⟨es, clock, hbk, F, _, e⟩ := hown
    refine ⟨es, clock, hbk, F, ?_, e⟩
    rw [← hs, e]
    simp [Maps.size, length_sorted]
  · by_cases e : y = b
    · subst e
      refine ⟨by rw [has_put_same h1.isMap (isKey_str _)]; simp [sput], fun z => by rw [atKey_put_same h1.isMap (isKey_str _)]; simp [sput]⟩
    · refine ⟨by rw [has_put_other (lits_ne e), (h3 y).1]; simp [sput, e], fun z => by rw [atKey_put_other (lits_ne e), (h3 y).2]; simp [sput, e]⟩
end
/-- ints as elements -/
def encInt : Enc Int where
  V a := .int .i64 a
  E a := .lit (.int .i64 a)
  dec v := match v with | .int .i64 a => some a | _ => none
  dv _ := rfl
  vd v a h := by
    split at h
    · simp only [Option.some.injEq] at h; rw [h]
    · cases h
  inj a b h := by injection h with h; injection h
/-- block q counts these names -/
def Cm (w : World) (q : Nat) (W : List (List UInt8)) : Prop :=
  ∃ (n : Nat) (S : ByteArray → Option Int) (D : List (List UInt8)), Sm encInt w q n S ∧ D.Nodup ∧ (D.length = n ∧ n ≤ W.length) ∧ (∀ x, x ∈ D ↔ x ∈ W) ∧ ∀ b : ByteArray, (S b).isSome = decide (b.data.toList ∈ W) ∧ (S b).getD 0 = (W.count b.data.toList : Nat)
theorem Cm.made (w : World) : Cm (w.alloc (.map #[] 0)) w.heap.size [] := ⟨0, _, [], Sm.made encInt w, List.nodup_nil, ⟨rfl, Nat.le_refl _⟩, fun _ => Iff.rfl, fun _ => ⟨by simp, by simp⟩⟩
section
variable {w w' : World} {q : Nat} {W : List (List UInt8)}
theorem Cm.turns {X : Nat → Prop} (h : Cm w q W) (k : Turns X w w') (hx : ¬ X q) : Cm w' q W := by
  obtain ⟨n, S, D, h1, h⟩ := h
  exact ⟨n, S, D, h1.turns k hx, h⟩
theorem Cm.lt (h : Cm w q W) : q < w.heap.size := by
  obtain ⟨n, S, D, h1, h⟩ := h
  exact h1.lt
theorem Cm.apart {g : Nat} {t : TypeId} {cs : List Value} (h : Cm w q W) (k : Lies w g t cs) : q ≠ g := by
  obtain ⟨n, S, D, h1, h⟩ := h
  exact h1.apart k
theorem Cm.below (h : Cm w q W) (k : Below w.heap.size w w') : Cm w' q W := h.turns (Turns.of_below k (fun _ => False)) (fun h => h)
theorem zeroInt10 (w : World) : (zeroValue 3).run Tryz.prog w = .ok (encInt.V 0) w := by kernel_rfl
/-- names[b] -/
theorem Cm.look (h : Cm w q W) {b : ByteArray} (hb : b.size ≤ maxLen) :
    (Instr.lookup 48 (.map (some q)) (.string b) false).run Tryz.prog w = .ok (.int .i64 (W.count b.data.toList : Nat)) w := by
  obtain ⟨n, S, D, h1, _, _, _, h2⟩ := h
  have := h1.look Tryz.underlying48 zeroInt10 hb
  rw [(h2 b).2] at this
  exact this
/-- names[b]++ -/
theorem Cm.put (h : Cm w q W) (hn : W.length ≤ 1000000) {b : ByteArray} (hb : b.size ≤ maxLen) :
    ∃ w', (Instr.mapUpdate 48 (.map (some q)) (.string b) (.int .i64 ((W.count b.data.toList : Nat) + 1))).run Tryz.prog w = .ok () w' ∧ Cm w' q (W ++ [b.data.toList]) ∧ Turns (fun g => g = q) w w' := by
  obtain ⟨n, S, D, h1, h2, h3, h4, h5⟩ := h
  have hDn : n ≤ 1000000000 := by have := h3.2; omega
  obtain ⟨w', hr, hs, hT⟩ := h1.put Tryz.underlying48 hDn hb ((W.count b.data.toList : Nat) + 1 : Int)
  refine ⟨w', hr, ?_, hT⟩
  rw [(h5 b).1] at hs
  have hy : ∀ y : ByteArray, ((sput S b (some ((W.count b.data.toList : Nat) + 1 : Int))) y).isSome = decide (y.data.toList ∈ W ++ [b.data.toList]) ∧ ((sput S b (some ((W.count b.data.toList : Nat) + 1 : Int))) y).getD 0 = ((W ++ [b.data.toList]).count y.data.toList : Nat) := by
    intro y
    unfold sput
    by_cases e : y = b
    · subst e
      rw [if_pos rfl]
      refine ⟨by simp, ?_⟩
      rw [List.count_append, List.count_singleton_self]
      rfl
    · have hne : y.data.toList ≠ b.data.toList := fun h => lits_ne e (congrArg Lit.string h)
      rw [if_neg e, (h5 y).1, (h5 y).2]
      refine ⟨by simp [hne], ?_⟩
      rw [List.count_append, List.count_singleton]
      have hb : (b.data.toList == y.data.toList) = false := by rw [beq_eq_false_iff_ne]; exact fun h => hne h.symm
      rw [hb]
      simp
  by_cases hm : b.data.toList ∈ W
  · simp only [hm, decide_true, if_true] at hs
    refine ⟨n, _, D, hs, h2, ⟨h3.1, by rw [List.length_append]; exact Nat.le_trans h3.2 (Nat.le_add_right _ _)⟩, fun x => ?_, hy⟩
    rw [h4, List.mem_append, List.mem_singleton]
    exact ⟨.inl, fun h => h.elim id (fun e => e ▸ hm)⟩
  · simp only [hm, decide_false, Bool.false_eq_true, if_false] at hs
    refine ⟨n + 1, _, b.data.toList :: D, hs, List.nodup_cons.2 ⟨fun h => hm ((h4 _).1 h), h2⟩, ⟨by rw [List.length_cons, h3.1], by rw [List.length_append]; exact Nat.add_le_add_right h3.2 1⟩, fun x => ?_, hy⟩
    rw [List.mem_cons, h4, List.mem_append, List.mem_singleton]
    exact ⟨fun h => h.elim .inr .inl, fun h => h.elim .inr .inl⟩
/-- len(names), where the names are those of a list that rises -/
theorem Cm.len (h : Cm w q W) {l : List (List UInt8)} (hl : TM.Rise l) (hm : ∀ x, x ∈ l ↔ x ∈ W) (ty : TypeId) :
    (Builtin.len_ #[48] ty #[.map (some q)]).run Tryz.prog w = .ok (.int .i64 l.length) w := by
  obtain ⟨n, S, D, h1, h2, h3, h4, _⟩ := h
  have hp : D.Perm l := (List.perm_ext_iff_of_nodup h2 (show l.Nodup from List.Pairwise.imp (S := fun a b => a ≠ b) (fun {a b} h e => TM.str_lt_irrefl b (by rw [e] at h; exact h)) hl)).2 (fun x => by rw [h4, hm])
  rw [h1.len Tryz.underlying48 ty, ← h3.1, hp.length_eq]
end
end Go.Proofs.YtpiekdcbjkgipaaGreatDoor

/- The law TermParts: what is so of names counted; a right program's names are short; the law where a program is not small or not right. -/
namespace Go.Proofs.YtpiekdcbjkgipaaGreatDoor
open Go.ChangeShapes Go.WideShapes Go.ChangeAt Go.RowKit Go.Deep
open TM (Tl Tm)

theorem TM.gls_short : ∀ {bd : List Int} {d : Tl}, TM.rtl bd d = true → ∀ x ∈ TM.gls d, x.length ≤ 60
  | _, .nil, _, x, hx => by simp [TM.gls] at hx
  | bd, .cons k n s ps d ks r, h, x, hx => by
    simp only [TM.rtl, Bool.and_eq_true] at h
    simp only [TM.gls, List.mem_append] at hx
    rcases hx with hx | hx | hx
    · have := TM.fit_short h.1.1
      split at hx
      · simp at hx
      · simp only [List.mem_singleton] at hx; rw [hx]; exact this
    · exact TM.gls_short h.1.2 x hx
    · exact TM.gls_short h.2 x hx
theorem TM.gl1_short {t : Tm} (h : TM.okt t = true) : ∀ x ∈ TM.gl1 t, x.length ≤ 60 := by
  obtain ⟨_, _, _, h4, _⟩ := TM.okt_parts h
  rw [TM.ok1, Bool.and_eq_true] at h4
  intro x hx
  rw [TM.gl1, List.mem_append] at hx
  rcases hx with hx | hx
  · have := TM.fit_short h4.1
    split at hx
    · simp at hx
    · simp only [List.mem_singleton] at hx; rw [hx]; exact this
  · exact TM.gls_short h4.2 x hx
/-- what is so of the names counted, of a term, so far: they and those still to come are the term's -/
def TM.Kst (t : Tm) (W rest : List TM.Str) : Prop := (∀ x, x ∈ TM.gl1 t ↔ x ∈ W ∨ x ∈ rest) ∧ W.length + rest.length ≤ (TM.gl1 t).length
theorem TM.Kst.step {t : Tm} {W rest : List TM.Str} {s : TM.Str} (h : TM.Kst t W (s :: rest)) : TM.Kst t (W ++ [s]) rest := by
  obtain ⟨h1, h2⟩ := h
  refine ⟨fun x => ?_, by simp only [List.length_append, List.length_cons, List.length_nil] at h2 ⊢; omega⟩
  rw [h1 x, List.mem_append, List.mem_cons, List.mem_singleton, or_assoc]
theorem TM.Kst.set {t x : Tm} {W rest : List TM.Str} (h : TM.Kst t W (TM.gl1 x ++ rest)) : TM.Kst t W (TM.gset x ++ rest) := by
  obtain ⟨h1, h2⟩ := h
  refine ⟨fun y => by rw [h1 y, List.mem_append, List.mem_append, TM.gset_mem], ?_⟩
  have := TM.gset_le x
  simp only [List.length_append] at h2 ⊢
  omega
set_option maxRecDepth 100000 in
set_option maxHeartbeats 8000000 in
theorem termParts_no (t : Tm) (w : World) (vp vi vk : Value) (h : TmIn w t vp vi vk) (hB : TmBd t) (hT : Tab w) (hno : ¬ (TM.smt t = true ∧ TM.okt t = true)) :
    Calls Tryz.prog 6 #[tmv t vp vi vk] w fun e w' => e = .returned (.bool true) ∧ Below w.heap.size w w' := by
  have hA := Lib.hid (fun (w' : World) (hb : Below w.heap.size w w') => awake10_of same_as w' (hT.on hb))
  have hS := Lib.hid (fun (w' : World) (hb : Below w.heap.size w w') => tsmall_any t w' vp vi vk (h.below hb))
  have hR := Lib.hid (fun (w' : World) (hb : Below w.heap.size w w') (hs : TM.smt t = true) => tright_any t w' vp vi vk (h.below hb) hB (smt_facts hs).2.2)
  unfold tmv at hS hR
  unfold tmv
  have hL := Lies.made w 28 #[.int .i64 t.k, .int .i64 t.n, .string ⟨t.s.toArray⟩, vp, .int .i64 t.d.k, .int .i64 t.d.n, .string ⟨t.d.s.toArray⟩, vi, vk]
  have hb0 : Below w.heap.size w (w.alloc (.cells #[.int .i64 t.k, .int .i64 t.n, .string ⟨t.s.toArray⟩, vp, .int .i64 t.d.k, .int .i64 t.d.n, .string ⟨t.d.s.toArray⟩, vi, vk] 28)) := (Below.refl _ w).alloc (Nat.le_refl _) _
  obtain ⟨st, hst⟩ : ∃ b, TM.smt t = b := ⟨_, rfl⟩
  obtain ⟨ok, hok⟩ : ∃ b, TM.okt t = b := ⟨_, rfl⟩
  rw [hst, hok] at hno
  rw [hst] at hS hR
  rw [hok] at hR
  have hL' := Lib.hid hL
  have hb0' := Lib.hid hb0
  clear h hB hT hst hok hL hb0
  cases st
  · go_enter Tryz.func6, Tryz.ntmps6
    go_wp2_with (first
      | (go_at_call 7
         with_reducible refine (hA.out _ hb0'.out).mono ?_
         rintro e w1 ⟨rfl, hb1⟩
         have hM1 := Lib.hid (hL'.out.below hb1 hL'.out.lt)
         have c1 := Lib.hid (hb0'.out.trans (Below.mono hb1 hb0'.out.size))
         have z0 := hM1.out.cell 0
         have z1 := hM1.out.cell 1
         have z2 := hM1.out.cell 2
         have z3 := hM1.out.cell 3
         have z4 := hM1.out.cell 4
         have z5 := hM1.out.cell 5
         have z6 := hM1.out.cell 6
         have z7 := hM1.out.cell 7
         have z8 := hM1.out.cell 8
         simp only [List.getElem?_cons_succ, List.getElem?_cons_zero] at z0 z1 z2 z3 z4 z5 z6 z7 z8
         clear hb1)
      | (go_at_call 8
         with_reducible refine (hS.out _ c1.out).mono ?_
         rintro e w2 ⟨rfl, hb2⟩
         have c2 := Lib.hid (c1.out.trans (Below.mono hb2 c1.out.size))
         clear hb2 z0 z1 z2 z3 z4 z5 z6 z7 z8)
      | (go_at_call 7; with_reducible refine (hA.out _ c2.out).mono ?_; rintro e w5 ⟨rfl, hb5⟩))
    go_ret
    exact ⟨rfl, c2.out.trans (Below.mono hb5 c2.out.size)⟩
  · obtain rfl : ok = false := by cases ok <;> simp_all
    go_enter Tryz.func6, Tryz.ntmps6
    go_wp2_with (first
      | (go_at_call 7
         with_reducible refine (hA.out _ hb0'.out).mono ?_
         rintro e w1 ⟨rfl, hb1⟩
         have hM1 := Lib.hid (hL'.out.below hb1 hL'.out.lt)
         have c1 := Lib.hid (hb0'.out.trans (Below.mono hb1 hb0'.out.size))
         have z0 := hM1.out.cell 0
         have z1 := hM1.out.cell 1
         have z2 := hM1.out.cell 2
         have z3 := hM1.out.cell 3
         have z4 := hM1.out.cell 4
         have z5 := hM1.out.cell 5
         have z6 := hM1.out.cell 6
         have z7 := hM1.out.cell 7
         have z8 := hM1.out.cell 8
         simp only [List.getElem?_cons_succ, List.getElem?_cons_zero] at z0 z1 z2 z3 z4 z5 z6 z7 z8
         clear hb1)
      | (go_at_call 8
         with_reducible refine (hS.out _ c1.out).mono ?_
         rintro e w2 ⟨rfl, hb2⟩
         have hM2 := Lib.hid (hM1.out.below hb2 hM1.out.lt)
         have c2 := Lib.hid (c1.out.trans (Below.mono hb2 c1.out.size))
         have y0 := hM2.out.cell 0
         have y1 := hM2.out.cell 1
         have y2 := hM2.out.cell 2
         have y3 := hM2.out.cell 3
         have y4 := hM2.out.cell 4
         have y5 := hM2.out.cell 5
         have y6 := hM2.out.cell 6
         have y7 := hM2.out.cell 7
         have y8 := hM2.out.cell 8
         simp only [List.getElem?_cons_succ, List.getElem?_cons_zero] at y0 y1 y2 y3 y4 y5 y6 y7 y8
         clear hb2 z0 z1 z2 z3 z4 z5 z6 z7 z8)
      | (go_at_call 13
         refine (hR.out _ c2.out (by first | rfl | trivial)).mono ?_
         rintro e w3 ⟨rfl, hb3⟩
         have c3 := Lib.hid (c2.out.trans (Below.mono hb3 c2.out.size))
         clear hb3 y0 y1 y2 y3 y4 y5 y6 y7 y8)
      | (go_at_call 7; with_reducible refine (hA.out _ c3.out).mono ?_; rintro e w5 ⟨rfl, hb5⟩))
    go_ret
    exact ⟨rfl, c3.out.trans (Below.mono hb5 c3.out.size)⟩
end Go.Proofs.YtpiekdcbjkgipaaGreatDoor
