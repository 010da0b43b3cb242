/- The maps of package match: what names are, and how often each was met. (The maps of counts are XTermSMap's.) -/
import Derived.Test.YtbomodendobnkaaGreatQ13
import Derived.Test.YtbomodendobnkaaGreatQ10
import Derived.Test.YtbomodendobnkaaGreatQ11
import Derived.Test.YtbomodendobnkaaGreatQ8
import Derived.Shelf.Abstract
import Derived.Deep.QuietTactic
import Derived.BigQuiet
import Derived.Lib.Hide
namespace Go.Proofs.YtbomodendobnkaaGreat
open Go.RowKit Go.Maps

section
variable {α : Type} {c : Enc α} {w : World} {q n : Nat} {S : ByteArray → Option α}
/-- len(m) -/
theorem Sm.len (h : Sm c w q n S) {t e : TypeId} (ht : Tryz.prog.underlying t = some (.map 9 e)) (ty : TypeId) :
    (Builtin.len_ #[t] ty #[.map (some q)]).run Tryz.prog w = .ok (.int .i64 n) w := by
  obtain ⟨D, h1, h2, h3⟩ := h
  rw [h1.len ht ty, h2]
end
/-- ints as elements -/
def encInt : Enc Int where
  V a := .int .i64 a
  E a := .lit (.int .i64 a)
  dec v := match v with | .int .i64 a => some a | _ => none
  dv _ := rfl
  vd v a h := by
    split at h
    · simp only [Option.some.injEq] at h; rw [h]
    · cases h
  inj a b h := by injection h with h; injection h
/-- block q counts these names -/
def Cm (w : World) (q : Nat) (W : List (List UInt8)) : Prop :=
  ∃ (n : Nat) (S : ByteArray → Option Int) (D : List (List UInt8)), Sm encInt w q n S ∧ D.Nodup ∧ (D.length = n ∧ n ≤ W.length) ∧ (∀ x, x ∈ D ↔ x ∈ W) ∧ ∀ b : ByteArray, (S b).isSome = decide (b.data.toList ∈ W) ∧ (S b).getD 0 = (W.count b.data.toList : Nat)
theorem Cm.made (w : World) : Cm (w.alloc (.map #[] 0)) w.heap.size [] := ⟨0, _, [], Sm.made encInt w, List.nodup_nil, ⟨rfl, Nat.le_refl _⟩, fun _ => Iff.rfl, fun _ => ⟨by simp, by simp⟩⟩
section
variable {w w' : World} {q : Nat} {W : List (List UInt8)}
theorem Cm.turns {X : Nat → Prop} (h : Cm w q W) (k : Turns X w w') (hx : ¬ X q) : Cm w' q W := by
  obtain ⟨n, S, D, h1, h⟩ := h
  exact ⟨n, S, D, h1.turns k hx, h⟩
theorem Cm.lt (h : Cm w q W) : q < w.heap.size := by
  obtain ⟨n, S, D, h1, h⟩ := h
  exact h1.lt
theorem Cm.apart {g : Nat} {t : TypeId} {cs : List Value} (h : Cm w q W) (k : Lies w g t cs) : q ≠ g := by
  obtain ⟨n, S, D, h1, h⟩ := h
  exact h1.apart k
theorem Cm.below (h : Cm w q W) (k : Below w.heap.size w w') : Cm w' q W := h.turns (Turns.of_below k (fun _ => False)) (fun h => h)
theorem zeroInt10 (w : World) : (zeroValue 3).run Tryz.prog w = .ok (encInt.V 0) w := by kernel_rfl
/-- names[b] -/
theorem Cm.look (h : Cm w q W) {b : ByteArray} (hb : b.size ≤ maxLen) :
    (Instr.lookup 49 (.map (some q)) (.string b) false).run Tryz.prog w = .ok (.int .i64 (W.count b.data.toList : Nat)) w := by
  obtain ⟨n, S, D, h1, _, _, _, h2⟩ := h
  have := h1.look Tryz.underlying49 zeroInt10 hb
  rw [(h2 b).2] at this
  exact this
/-- names[b]++ -/
theorem Cm.put (h : Cm w q W) (hn : W.length ≤ 1000000) {b : ByteArray} (hb : b.size ≤ maxLen) :
    ∃ w', (Instr.mapUpdate 49 (.map (some q)) (.string b) (.int .i64 ((W.count b.data.toList : Nat) + 1))).run Tryz.prog w = .ok () w' ∧ Cm w' q (W ++ [b.data.toList]) ∧ Turns (fun g => g = q) w w' := by
  obtain ⟨n, S, D, h1, h2, h3, h4, h5⟩ := h
  have hDn : n ≤ 1000000000 := by have := h3.2; omega
  obtain ⟨w', hr, hs, hT⟩ := h1.put Tryz.underlying49 hDn hb ((W.count b.data.toList : Nat) + 1 : Int)
  refine ⟨w', hr, ?_, hT⟩
  rw [(h5 b).1] at hs
  have hy : ∀ y : ByteArray, ((sput S b (some ((W.count b.data.toList : Nat) + 1 : Int))) y).isSome = decide (y.data.toList ∈ W ++ [b.data.toList]) ∧ ((sput S b (some ((W.count b.data.toList : Nat) + 1 : Int))) y).getD 0 = ((W ++ [b.data.toList]).count y.data.toList : Nat) := by
    intro y
    unfold sput
    by_cases e : y = b
    · subst e
      rw [if_pos rfl]
      refine ⟨by simp, ?_⟩
      rw [List.count_append, List.count_singleton_self]
      rfl
    · have hne : y.data.toList ≠ b.data.toList := fun h => lits_ne e (congrArg Lit.string h)
      rw [if_neg e, (h5 y).1, (h5 y).2]
      refine ⟨by simp [hne], ?_⟩
      rw [List.count_append, List.count_singleton]
      have hb : (b.data.toList == y.data.toList) = false := by rw [beq_eq_false_iff_ne]; exact fun h => hne h.symm
      rw [hb]
      simp
  by_cases hm : b.data.toList ∈ W
  · simp only [hm, decide_true, if_true] at hs
    refine ⟨n, _, D, hs, h2, ⟨h3.1, by rw [List.length_append]; exact Nat.le_trans h3.2 (Nat.le_add_right _ _)⟩, fun x => ?_, hy⟩
    rw [h4, List.mem_append, List.mem_singleton]
    exact ⟨.inl, fun h => h.elim id (fun e => e ▸ hm)⟩
  · simp only [hm, decide_false, Bool.false_eq_true, if_false] at hs
    refine ⟨n + 1, _, b.data.toList :: D, hs, List.nodup_cons.2 ⟨fun h => hm ((h4 _).1 h), h2⟩, ⟨by rw [List.length_cons, h3.1], by rw [List.length_append]; exact Nat.add_le_add_right h3.2 1⟩, fun x => ?_, hy⟩
    rw [List.mem_cons, h4, List.mem_append, List.mem_singleton]
    exact ⟨fun h => h.elim .inr .inl, fun h => h.elim .inr .inl⟩
theorem sub_len {α : Type} [DecidableEq α] : ∀ (W D : List α), D.Nodup → (∀ x ∈ D, x ∈ W) → D.length ≤ W.length ∧ (D.length = W.length → W.Nodup)
  | [], D, _, h => by
    cases D with
    | nil => exact ⟨Nat.le_refl _, fun _ => List.nodup_nil⟩
    | cons a l => exact absurd (h a (by simp)) (by simp)
  | a :: r, D, hd, h => by
    have h1 : ∀ x ∈ D.erase a, x ∈ r := fun x hx => by
      rw [hd.mem_erase_iff] at hx
      rcases List.mem_cons.1 (h x hx.2) with e | e
      · exact absurd e hx.1
      · exact e
    have i1 := sub_len r (D.erase a) (hd.erase a) h1
    have h2 : D.length ≤ (D.erase a).length + 1 := by
      rw [List.length_erase]; split <;> omega
    refine ⟨by simp only [List.length_cons]; omega, fun e => ?_⟩
    simp only [List.length_cons] at e
    refine List.nodup_cons.2 ⟨fun ha => ?_, i1.2 (by omega)⟩
    have i2 := (sub_len r D hd (fun x hx => by
      rcases List.mem_cons.1 (h x hx) with e | e
      · rw [e]; exact ha
      · exact e)).1
    omega
/-- len(names) -/
theorem Cm.lens (h : Cm w q W) (ty : TypeId) :
    ∃ m : Nat, (∀ w2 ty2, w2 = w → ty2 = ty → (Builtin.len_ #[49] ty2 #[.map (some q)]).run Tryz.prog w2 = .ok (.int .i64 (m : Nat)) w2) ∧ (((m : Nat) : Int) = (W.length : Nat) ↔ W.Nodup) := by
  obtain ⟨n, S, D, h1, h2, h3, h4, _⟩ := h
  refine ⟨n, fun w2 ty2 e e2 => by subst e; subst e2; exact h1.len Tryz.underlying49 ty2, ?_, ?_⟩
  · intro e
    exact (sub_len W D h2 (fun x hx => (h4 x).1 hx)).2 (by omega)
  · intro hn
    have hp : D.Perm W := (List.perm_ext_iff_of_nodup h2 hn).2 h4
    have := hp.length_eq
    omega
end
/-- block q says what names are; it has at most m of them -/
def Nm (w : World) (q m : Nat) (n : MM.NM) : Prop := ∃ c S, Sm encInt w q c S ∧ c ≤ m ∧ ∀ b : ByteArray, (S b).getD 0 = n b.data.toList
section
variable {w w' : World} {q m : Nat} {n : MM.NM}
theorem Nm.made (w : World) : Nm (w.alloc (.map #[] 0)) w.heap.size 0 (fun _ => 0) := ⟨0, _, Sm.made encInt w, Nat.le_refl _, fun _ => rfl⟩
theorem Nm.turns {X : Nat → Prop} (h : Nm w q m n) (k : Turns X w w') (hx : ¬ X q) : Nm w' q m n := by
  obtain ⟨c, S, h1, h⟩ := h
  exact ⟨c, S, h1.turns k hx, h⟩
theorem Nm.lt (h : Nm w q m n) : q < w.heap.size := by
  obtain ⟨c, S, h1, h⟩ := h
  exact h1.lt
theorem Nm.below (h : Nm w q m n) (k : Below w.heap.size w w') : Nm w' q m n := h.turns (Turns.of_below k (fun _ => False)) (fun h => h)
theorem Nm.drew (h : Nm w q m n) : Nm w.drew q m n := h.below (below_of_drew (w := w) (w' := w.drew) (Below.refl _ _))
/-- n[b] -/
theorem Nm.look (h : Nm w q m n) {b : ByteArray} (hb : b.size ≤ maxLen) :
    (Instr.lookup 50 (.map (some q)) (.string b) false).run Tryz.prog w = .ok (.int .i64 (n b.data.toList)) w := by
  obtain ⟨c, S, h1, _, h2⟩ := h
  have := h1.look Tryz.underlying50 zeroInt10 hb
  rw [h2 b] at this
  exact this
/-- n[b] = k -/
theorem Nm.put (h : Nm w q m n) (hm : m ≤ 1000000) {b : ByteArray} (hb : b.size ≤ maxLen) (k : Int) :
    ∃ w', (Instr.mapUpdate 50 (.map (some q)) (.string b) (.int .i64 k)).run Tryz.prog w = .ok () w' ∧ Nm w' q (m + 1) (MM.put n b.data.toList k) ∧ Turns (fun g => g = q) w w' := by
  obtain ⟨c, S, h1, h2, h3⟩ := h
  obtain ⟨w', hr, hs, hT⟩ := h1.put Tryz.underlying50 (by omega) hb (k : Int)
  refine ⟨w', hr, ⟨_, _, hs, by split <;> omega, fun y => ?_⟩, hT⟩
  unfold sput MM.put
  by_cases e : y = b
  · subst e
    rw [if_pos rfl, if_pos rfl]; rfl
  · have hne : y.data.toList ≠ b.data.toList := fun h => lits_ne e (congrArg Lit.string h)
    rw [if_neg e, if_neg hne]
    exact h3 y
end
end Go.Proofs.YtbomodendobnkaaGreat

/- Package match: what a datum is in a pattern; the parts of a row. -/
namespace Go.Proofs.YtbomodendobnkaaGreat
open Go.ChangeShapes Go.WideShapes Go.ChangeAt Go.RowKit Go.Deep

theorem Cn.empty (w : World) (A : Option Addr) (c : Nat) (hc : c ≤ 9223372036854775807) : Cn w (.slice A 0 c) .nil := ⟨A, c, rfl, ⟨Nat.zero_le _, hc⟩, 0, 0, fun h => absurd h (by simp [RM.Dl.len]), trivial⟩
set_option maxRecDepth 100000 in
theorem of_any (w : World) (q m : Nat) (n : MM.NM) (x : RM.Dm) (v : Value) (hN : Nm w q m n) (hs : x.s.length ≤ maxLen) (hv : Cn w v x.is) :
    Calls Tryz.prog 20 #[.map (some q), dtv x v] w fun e w' => e = .returned (.int .i64 (MM.cls n x)) ∧ Went w w' := by
  obtain ⟨k, nn, s, is⟩ := x
  obtain ⟨A, c, rfl⟩ := hv.read
  simp only at hs hv ⊢
  unfold dtv
  simp only
  have hb := m_box w #[.int .i64 k, .int .i64 nn, .string ⟨s.toArray⟩, .slice A is.len c] 24
  have hl := (hN.below hb).look (b := ⟨s.toArray⟩) (by simpa [ByteArray.size] using hs)
  simp only at hl
  generalize is.len = N at hl hb ⊢
  clear hN hs hv
  by_cases h5 : k = 5
  · subst h5
    rw [show MM.cls n ⟨5, nn, s, is⟩ = n s from rfl]
    go_enter Tryz.func20, Tryz.ntmps20
    go_wp2_with fail
    go_ret
    exact ⟨rfl, hb⟩
  by_cases h6 : k = 6
  · subst h6
    rw [show MM.cls n ⟨6, nn, s, is⟩ = 4 from rfl]
    go_enter Tryz.func20, Tryz.ntmps20
    go_wp2_with fail
    go_ret
    exact ⟨rfl, hb⟩
  by_cases h7 : k = 7
  · subst h7
    rw [show MM.cls n ⟨7, nn, s, is⟩ = 4 from rfl]
    go_enter Tryz.func20, Tryz.ntmps20
    go_wp2_with fail
    go_ret
    exact ⟨rfl, hb⟩
  by_cases h8 : k = 8
  · subst h8
    rw [show MM.cls n ⟨8, nn, s, is⟩ = 4 from rfl]
    go_enter Tryz.func20, Tryz.ntmps20
    go_wp2_with fail
    go_ret
    exact ⟨rfl, hb⟩
  · rw [show MM.cls n ⟨k, nn, s, is⟩ = 5 by unfold MM.cls; rw [if_neg h5, if_neg (by simp [h6, h7, h8])]]
    go_enter Tryz.func20, Tryz.ntmps20
    go_wp2_with fail
    go_ret
    exact ⟨rfl, hb⟩
set_option maxRecDepth 100000 in
theorem isEllipsis_any (w : World) (q m : Nat) (n : MM.NM) (x : RM.Dm) (v : Value) (hN : Nm w q m n) (hs : x.s.length ≤ maxLen) (hv : Cn w v x.is) :
    Calls Tryz.prog 51 #[.map (some q), dtv x v] w fun e w' => e = .returned (.bool (decide (MM.cls n x = 2))) ∧ Went w w' := by
  obtain ⟨A, c, rfl⟩ := hv.read
  have hO := Lib.hid (fun (w' : World) (hb : Below w.heap.size w w') => of_any w' q m n x _ (hN.below hb) hs (hv.below hb))
  unfold dtv at hO ⊢
  have hb := m_box w #[.int .i64 x.k, .int .i64 x.n, .string ⟨x.s.toArray⟩, .slice A x.is.len c] 24
  generalize MM.cls n x = y at hO ⊢
  clear hN hs hv
  go_enter Tryz.func51, Tryz.ntmps51
  go_wp2_with (go_at_call 20; (with_reducible refine (hO.out _ hb).mono ?_); rintro e w2 ⟨rfl, hb2⟩)
  go_ret
  refine ⟨?_, hb.trans (hb2.mono hb.size)⟩
  congr 2
theorem takes_any (a b : Int) (w : World) : Calls Tryz.prog 52 #[.int .i64 a, .int .i64 b] w fun e w' => e = .returned (.bool (MM.takes a b)) ∧ w = w' := by
  unfold MM.takes
  by_cases h1 : b = a
  · subst h1
    go_enter Tryz.func52, Tryz.ntmps52
    go_wp2_with fail
    go_ret
    exact ⟨by simp, rfl⟩
  · by_cases h2 : a = 7
    · subst h2
      by_cases h3 : b = 6
      · subst h3
        go_enter Tryz.func52, Tryz.ntmps52
        go_wp2_with fail
        go_ret
        exact ⟨by simp, rfl⟩
      · go_enter Tryz.func52, Tryz.ntmps52
        go_wp2_with fail
        go_ret
        exact ⟨by simp [h1, h3], rfl⟩
    · go_enter Tryz.func52, Tryz.ntmps52
      go_wp2_with fail
      go_ret
      exact ⟨by simp [h1, h2], rfl⟩
set_option maxRecDepth 100000 in
/-- in a later world: the parts lie where the row lay -/
theorem parted_of (w0 w : World) (x : RM.Dm) (v : Value) (hv : Cn w0 v x.is) :
    Calls Tryz.prog 49 #[dtv x v] w fun e w' => ∃ A1 c1 A2 c2, e = .returned (.tuple #[.slice A1 (MM.items x).len c1, .slice A2 (MM.last x).len c2]) ∧ Cn w0 (.slice A1 (MM.items x).len c1) (MM.items x) ∧ Cn w0 (.slice A2 (MM.last x).len c2) (MM.last x) ∧ Went w w' := by
  obtain ⟨A, c, rfl⟩ := hv.read
  have hb := m_box w #[.int .i64 x.k, .int .i64 x.n, .string ⟨x.s.toArray⟩, .slice A x.is.len c] 24
  have hle := MM.cut_le x
  obtain ⟨A1, c1, r1, hC1⟩ := hv.to hle
  obtain ⟨A2, c2, r2, hC2⟩ := hv.from_ hle
  have e1 := MM.items_len x
  have e2 : (MM.last x).len = x.is.len - MM.cut x := SM.dr_len _ _
  have g1 := Lib.hid hC1
  have g2 := Lib.hid hC2
  have hlen := hv.len
  have hcap := Lib.hid hv.room
  rw [show (SM.tk x.is (MM.cut x)) = MM.items x from rfl] at g1
  rw [show (SM.dr x.is (MM.cut x)) = MM.last x from rfl] at g2
  rw [e1, e2]
  clear hC1 hC2 hv
  unfold dtv
  have hcut : MM.cut x = if x.k = 7 ∧ 0 < x.is.len then x.is.len - 1 else x.is.len := rfl
  generalize MM.cut x = C at *
  generalize MM.items x = I at *
  generalize MM.last x = L at *
  obtain ⟨k, nn, s, is⟩ := x
  simp only at *
  generalize is.len = N at *
  by_cases h7 : k = 7
  · subst h7
    by_cases h0 : 0 < N
    · rw [if_pos ⟨rfl, h0⟩] at hcut
      have h0' : (N : Int) > 0 := by omega
      have hC : (C : Int) = (N : Int) - 1 := by omega
      rw [hC] at r1 r2
      clear hcut hC hle
      go_enter Tryz.func49, Tryz.ntmps49
      go_wp2_with fail
      go_region
      go_wp2_with fail
      go_ret2
      exact ⟨A1, c1, A2, c2, rfl, g1.out, g2.out, below_drewN hb 1⟩
    · rw [if_neg (by omega)] at hcut
      obtain rfl : N = 0 := by omega
      subst hcut
      go_enter Tryz.func49, Tryz.ntmps49
      go_wp2_with fail
      go_region
      go_wp2_with fail
      go_ret2
      have i0 : I = .nil := by cases I <;> simp_all [RM.Dl.len]
      have l0 : L = .nil := by cases L <;> simp_all [RM.Dl.len]
      have hc0 := hcap.out.2
      exact ⟨A, c, A, c, rfl, by rw [i0]; exact Cn.empty _ _ _ hc0, by rw [l0]; exact Cn.empty _ _ _ hc0, below_drewN hb 1⟩
  · rw [if_neg (by omega)] at hcut
    subst hcut
    go_enter Tryz.func49, Tryz.ntmps49
    go_wp2_with fail
    go_region
    go_wp2_with fail
    go_ret2
    exact ⟨A1, c1, A2, c2, by rw [Nat.sub_self]; rfl, g1.out, g2.out, below_drewN hb 1⟩
end Go.Proofs.YtbomodendobnkaaGreat
