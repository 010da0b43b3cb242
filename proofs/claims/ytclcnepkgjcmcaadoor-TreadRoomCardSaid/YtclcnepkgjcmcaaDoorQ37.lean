/- The laws' own world: a new thing in the heap. -/
import Derived.Test.YtclcnepkgjcmcaaDoorQ32
import Derived.Test.YtclcnepkgjcmcaaDoorRows
import Derived.WalkKit
import Derived.ProofKit
import Derived.OpenShut
import Derived.LaidEql
import Derived.Stop.Asserts
import Derived.RowKitTokens
import Derived.Handy
import Derived.Lib.Hide
namespace Go.Proofs.YtclcnepkgjcmcaaDoor
open Go.RowKit

/-- no free cell of the size is left -/
def Gk.full (n : Nat) (K : Gk) : Gk := fun H R A D => K H R A D ∧ H.fre.at_ (cln n) = 0
/-- a cell is taken, for the thing z -/
def Gk.take (G : Geo) (M : Md) (f : Int) (n z : Nat) (K : Gk) : Gk := fun H' R' A' D' => ∃ e H R A D, K H R A D ∧ Safe e G H R M A D ∧ H.fre.at_ (cln n) ≠ 0 ∧ H' = H.alloc f 0 n ∧ R' = H.allocR R (cln n) ∧ A' = plus A z ∧ D' = plus D z
theorem Gk.full_low {K : Gk} {N n : Nat} {H : Hp} {R : Nat → List Int} {A D : Nat → Prop} (h : K.low N H R A D) (h0 : H.fre.at_ (cln n) = 0) : (K.full n).low N H R A D := ⟨⟨h.1, h0⟩, h.2⟩

/-- The world amid 'made': the heap holds M1, with the new thing N; memory holds M. -/
structure Wn (w : World) (x q p b : Nat) (e : Int) (G : Geo) (M M1 : Md) (N B : Nat) (blk : Nat → Nat) (fv : Nat → Value) (al : Value) (bad full : Bool) (K : Gk) : Prop where
  cells : Lies w x 43 (wcells q blk M.reg al bad full)
  things : Thw w B blk fv M N
  all : OwnP w B al ((List.range N).map blk)
  heap : ∃ H R A D, Tr w q p b G H ∧ Safe e G H R M1 A D ∧ K.low (N + 1) H R A D ∧ A N ∧ (H.mrk = true → Bk R (M1.cell N))
  lq : q < B
  lp : p < B
  lb : b < B
  lx : x < B
  apart : ¬ Own3 q p b x
  high : ∀ i, i < N → B ≤ blk i
  sz : B ≤ w.heap.size
/-- M1 is M, but for the thing N -/
structure Ext (M M1 : Md) (N : Nat) : Prop where
  form : ∀ i, i < N → M1.form i = M.form i
  len : ∀ i, i < N → M1.len i = M.len i
  fld : ∀ i, i < N → M1.fld i = M.fld i
  cell : ∀ i, i < N → M1.cell i = M.cell i
  reg : M1.reg = M.reg
theorem Ext.add (M : Md) (N : Nat) (f : Int) (n : Nat) (c : Int) : Ext M (M.add N f n c) N :=
  ⟨fun i hi => if_neg (by omega), fun i hi => if_neg (by omega), fun i hi => by funext k; exact if_neg (by omega), fun i hi => if_neg (by omega), rfl⟩
theorem Ext.setFld {M M1 : Md} {N : Nat} (h : Ext M M1 N) (j : Nat) (v : V) : Ext M (M1.setFld N j v) N :=
  ⟨h.form, h.len, fun i hi => by
    rw [← h.fld i hi]
    funext k
    exact if_neg (by omega), h.cell, h.reg⟩

section
variable {w w' : World} {x q p b z j : Nat} {e : Int} {G : Geo} {M M1 : Md} {N B : Nat} {blk : Nat → Nat} {fv : Nat → Value} {al : Value} {bad full : Bool} {K : Gk}
theorem Wn.not3 (s : Wn w x q p b e G M M1 N B blk fv al bad full K) {k : Nat} (hk : B ≤ k) : ¬ Own3 q p b k := fun h => by
  have := s.lq; have := s.lp; have := s.lb
  unfold Own3 at h
  omega
theorem Wn.quiet (s : Wn w x q p b e G M M1 N B blk fv al bad full K) (k : Turns (fun _ => False) w w') : Wn w' x q p b e G M M1 N B blk fv al bad full K := by
  obtain ⟨H, R, A, D, h, hs, hk⟩ := s.heap
  exact ⟨s.cells.turns k (fun h => h), s.things.quiet k, s.all.turns k (fun _ _ h => h), ⟨H, R, A, D, h.turns k (fun h => h) (fun h => h) (fun h => h) (fun h => h), hs, hk⟩, s.lq, s.lp, s.lb, s.lx, s.apart, s.high, Nat.le_trans s.sz k.size⟩
theorem Ws.alloc (s : Ws w x q p b e G M N B blk fv al bad full K) (f : Int) (n : Nat) (f0 : 1 ≤ f) (f1 : f ≤ 3) (n1 : n < 128) (hw : f = 3 → n = 2) (he : e + G.k ≤ 1000000000) :
    (Calls Tryd.prog 12 #[.pointer (some ⟨q, 0, none⟩), .int .i64 f, .int .i64 0, .int .i64 n] w fun r w' =>
      r = .returned (.tuple #[.int .u64 0, er 4]) ∧ Ws w' x q p b (e + G.k.toNat) G M N B blk fv al bad full ((Gk.incs G M K G.k.toNat).full n) ∧ Turns (Own3 q p b) w w') ∨
    (∃ c : Int, (∀ i, Reach M i → M.cell i ≠ c) ∧ Calls Tryd.prog 12 #[.pointer (some ⟨q, 0, none⟩), .int .i64 f, .int .i64 0, .int .i64 n] w fun r w' =>
      r = .returned (.tuple #[.int .u64 (8 * c + 1), .nilIface]) ∧
          Wn w' x q p b (e + G.k.toNat) G M (M.add N f n c) N B blk fv al bad full (Gk.take G M f n N (Gk.incs G M K G.k.toNat)) ∧ Turns (Own3 q p b) w w') := by
  obtain ⟨H, R, A, D, h, hs, hk⟩ := s.heap
  have hG := hs.inv.ok.2.2.2.2.2.2.2.2
  obtain ⟨A', D', hs', hk'⟩ := safe_incsK hs hk G.k.toNat (by omega)
  have hk2 := Gk.incs_low _ hk'
  by_cases hf : (H.incs G G.k.toNat).fre.at_ (cln n) = 0
  · refine .inl ((alloc_no hs.inv f 0 n f0 f1 (by omega) (by omega) (by omega) (by omega) (fun e => by have := hw e; omega) (by omega) hf w h).mono ?_)
    rintro r w' ⟨rfl, h1, ht⟩
    exact ⟨rfl, s.moved ht ⟨_, _, A', D', h1, hs', Gk.full_low hk2 hf⟩, ht⟩
  · have hz : ¬ D' N := fun h => by have := hk2.2 N h; omega
    obtain ⟨sa, ha, hbk⟩ := hs'.alloc hz (fun i hi j hj => V.Has.mono (fun t ht => by omega) (s.things.named i (hk2.2 i (hs'.ct.sub i hi)) j hj)) f0 f1 (t := 0) (by omega) (by omega) n1 hw hf
    have hc : (M.add N f n ((H.incs G G.k.toNat).firstFree (cln n))).cell N = (H.incs G G.k.toNat).firstFree (cln n) := if_pos rfl
    refine .inr ⟨(H.incs G G.k.toNat).firstFree (cln n), fun i hi => ha i (hs'.ct.sub i (hs'.reach hi)), (alloc_yes hs.inv f 0 n f0 f1 (by omega) (by omega) (by omega) (by omega) (fun e => by have := hw e; omega) (by omega) hf w h).mono ?_⟩
    rintro r w' ⟨rfl, h1, ht⟩
    refine ⟨rfl, ?_, ht⟩
    exact ⟨s.cells.turns ht s.apart, s.things.turns ht (fun i hi => s.not3 (s.high i hi)) (fun i hi g hg => s.not3 ((s.things.rows i hi).lt g hg).1), s.all.turns ht (fun g hg => s.not3 (s.all.lt g hg).1),
      ⟨_, _, plus A' N, plus D' N, h1, sa, ⟨⟨_, _, _, A', D', hk2.1, hs', hf, rfl, rfl, rfl, rfl⟩, fun i hi => hi.elim (fun h => by have := hk2.2 i h; omega) (fun h => by omega)⟩, .inr rfl, fun _ => by rw [hc]; exact hbk⟩,
      s.lq, s.lp, s.lb, s.lx, s.apart, s.high, Nat.le_trans s.sz ht.size⟩
/-- what memory's things reach is held -/
theorem Thw.held (T : Thw w B blk fv M N) (hx : Ext M M1 N) {A : Nat → Prop} (hc : Closed M1 A) {i : Nat} (h : Reach M i) : A i := by
  have both : ∀ {v : V}, v.Has A → v.Has (fun t => t < N) → v.Has (fun t => A t ∧ t < N) := fun {v} a c => by
    cases v with
    | w _ => trivial
    | t _ => exact ⟨a, c⟩
  refine (h (fun t => A t ∧ t < N) ⟨fun r hr => both (hx.reg ▸ hc.reg r hr) (T.regs r hr), fun t ht hf j hj => ?_, fun t ht hf h0 => ?_⟩).1
  · have := hc.plain t ht.1 (by rw [hx.form t ht.2]; exact hf) j (by rw [hx.len t ht.2]; exact hj)
    rw [hx.fld t ht.2] at this
    exact both this (T.named t ht.2 j hj)
  · have := hc.weak t ht.1 (by rw [hx.form t ht.2]; exact hf) (by rw [hx.fld t ht.2]; exact V.Has.mono (fun _ h => h.1) h0)
    rw [hx.fld t ht.2] at this
    exact both this (T.named t ht.2 1 (by rw [T.len3 t ht.2 hf]; omega))
/-- the barrier at a weak thing -/
theorem Safe.setFB {H : Hp} {R : Nat → List Int} {A D : Nat → Prop} (s : Safe e G H R M A D) (hz : A z) (h3 : M.form z = 3) {v : V} (hv : v.ok) (hA : v.Has A) :
    (H.setF G (M.cell z) j (v.wd M.cell)).mrk = H.mrk ∧ ∀ y, Bk R y → Bk (H.setFR G R (M.cell z) j (v.wd M.cell)) y := by
  have em := (s.ct.mark z hz).1
  have e1 : ¬ mform (gv H.ws (M.cell z)) = 1 := by omega
  have e3 : mform (gv H.ws (M.cell z)) = 3 := by omega
  obtain ⟨-, m2, -, b2, -, -⟩ := s.shade hv hA
  simp only [Hp.setF, Hp.setFR, Hp.guard, Hp.guardR, if_neg e1, if_pos e3]
  split
  · exact ⟨m2, fun y hy => (b2 y).2 hy⟩
  · exact ⟨rfl, fun y hy => hy⟩
/-- a field of the new thing, a weak one, is set in the heap -/
theorem Wn.hset (s : Wn w x q p b e G M M1 N B blk fv al bad full K) (hx : Ext M M1 N) (hf : M1.form N = 3) (hl : M1.len N = 2) (h0 : (M1.fld N 0).Has (Reach M)) (h1 : (M1.fld N 1).Has (Reach M)) (hj : j < 2) (hj0 : j = 0 → M1.fld N 0 = .w 12) {v : V} (hv : v.ok) (hR : v.Has (Reach M)) (hcl : v.wd M.cell = v.wd M1.cell) :
    Calls Tryd.prog 25 #[.pointer (some ⟨q, 0, none⟩), .int .u64 (8 * M1.cell N + 1), .int .i64 (j : Int), .int .u64 (v.wd M.cell)] w fun o w' => o = .returned .nilIface ∧ Wn w' x q p b e G M (M1.setFld N j v) N B blk fv al bad full K.quiet ∧ Turns (Own3 q p b) w w' := by
  obtain ⟨H, R, A, D, h, hs, hk, hN, hb⟩ := s.heap
  have hRA : ∀ i, Reach M i → A i := fun i hi => s.things.held hx hs.ct.closed hi
  have hvA : v.Has A := V.Has.mono hRA hR
  obtain ⟨v0, v1, hm⟩ := hs.may hv hvA
  obtain ⟨kk, h4, hk13, hxk⟩ := hs.ring hN
  obtain ⟨-, e1, e2, -⟩ := hs.sees hN
  obtain ⟨w0, -, -⟩ := hs.whole hN hf (V.Has.mono hRA h0)
  rw [hcl]
  refine (Set_yes hs.inv (M1.cell N) h4 hk13 hxk (j : Int) (v.wd M1.cell) (by omega) (by omega) v0 v1 (.inr (.inr ⟨by omega, hm, fun ej => ?_⟩)) w h).mono ?_
  · have : j = 0 := by omega
    subst this
    rw [show M1.cell N + 3 + ((0 : Nat) : Int) = M1.cell N + 3 by omega, w0, hj0 rfl]
    rfl
  rintro o w' ⟨rfl, h2, ht⟩
  obtain ⟨m1, m2⟩ := hs.setFB (j := j) hN hf hv hvA
  refine ⟨rfl, ⟨s.cells.turns ht s.apart, s.things.turns ht (fun i hi => s.not3 (s.high i hi)) (fun i hi g hg => s.not3 ((s.things.rows i hi).lt g hg).1), s.all.turns ht (fun g hg => s.not3 (s.all.lt g hg).1),
    ⟨_, _, A, D, h2, hs.setF hN (by omega) hv hvA (.inr ⟨hf, hb, V.Has.mono hRA h0, V.Has.mono hRA h1⟩), Gk.quiet_low (hs.setFK hk hv hvA), hN, fun hm1 => m2 _ (hb (by rw [m1] at hm1; exact hm1))⟩,
    s.lq, s.lp, s.lb, s.lx, s.apart, s.high, Nat.le_trans s.sz ht.size⟩, ht⟩
end
end Go.Proofs.YtclcnepkgjcmcaaDoor

/- errors.Is over two errors that are kinds of package api, bare (not wrapped): true just if they are the same kind. Go's own text of errors.Is is walked. -/
namespace Go.Proofs.YtclcnepkgjcmcaaDoor
open Go.RowKit Go.Extern.Stop Go.Stop Go.Extern

section
variable {P : Program} (w : World)
theorem run_equalIn_iface_int (d : Nat) {ti tn : TypeId} {ms : Array (String × TypeId)} {i : TypeInfo} {k : IntKind} (a b : Int)
    (hi : P.underlying ti = some (.interface ms)) (hn : P.underlying tn = some (.int k)) (hinfo : P.info? tn = some i) (hcomp : i.comparable = true) :
    (Op.equalIn (d + 2) ti (.iface tn (.int k a)) (.iface tn (.int k b))).run P w = .ok (a == b) w := by
  simp [Op.equalIn, run_underlying hi, run_underlying hn, typeInfo, hinfo, hcomp]
/-- two interface values of one integer type are equal as their numbers are -/
theorem run_eql_iface_int {ti tn : TypeId} {ms : Array (String × TypeId)} {i : TypeInfo} {k : IntKind} (a b : Int)
    (hi : P.underlying ti = some (.interface ms)) (hn : P.underlying tn = some (.int k)) (hinfo : P.info? tn = some i) (hcomp : i.comparable = true) :
    (binOp .eql ti (.iface tn (.int k a)) (.iface tn (.int k b))).run P w = .ok (.bool (a == b)) w := by
  simp only [binOp]
  simp [Op.equal, Op.maxDepth, run_equalIn_iface_int w 9998 a b hi hn hinfo hcomp]
end

theorem Tryd.isTypeOf (v : Value) (w : World) : (callFunc 49 #[.iface 58 v]).run Tryd.prog w = .ok (.value (.iface 113 (.agg #[.pointer (some ⟨1, 58, none⟩)]))) w := by kernel_rfl
theorem Tryd.isComparable (w : World) : (callFunc 108 #[.agg #[.pointer (some ⟨1, 58, none⟩)]]).run Tryd.prog w = .ok (.value (.bool true)) w := by kernel_rfl
theorem Tryd.isComp : (Tryd.prog.info? 58).map (·.comparable) = some true := by kernel_rfl

theorem is_loop_same (a : Int) (w : World) :
    Calls Tryd.prog 50 #[.iface 58 (.int .i64 a), .iface 58 (.int .i64 a), .bool true] w fun e w' => e = .returned (.bool true) ∧ w = w' := by
  obtain ⟨i, hi, hcmp⟩ := Option.map_eq_some_iff.1 Tryd.isComp
  have heq := fun w => run_eql_iface_int (P := Tryd.prog) w a a Tryd.underlying46 Tryd.underlying58 hi hcmp
  simp only [beq_self_eq_true] at heq
  clear hi hcmp
  go_enter Tryd.func50, Tryd.ntmps50
  go_wp2
  refine wp_loop_rounds 1 ?_
  rw [rounds_succ]
  go_wp2
  go_ret
  exact ⟨rfl, rfl⟩

/-- errors.Is(k, k), k a kind -/
theorem is_same (a : Int) (w : World) :
    Calls Tryd.prog 18 #[.iface 58 (.int .i64 a), .iface 58 (.int .i64 a)] w fun e w' => e = .returned (.bool true) ∧ w = w' := by
  have tT := Tryd.isTypeOf
  have cT := Tryd.isComparable
  go_enter Tryd.func18, Tryd.ntmps18
  go_wp2_with (go_at_call 50; refine (is_loop_same _ _).mono ?_; rintro e w' ⟨rfl, rfl⟩)
  go_ret
  exact ⟨rfl, rfl⟩

theorem Tryd.noIs (v : Value) (xT : TypeId) (w : World) : (Instr.typeAssert (.iface 58 v) xT 115 true).run Tryd.prog w = .ok (.tuple #[.nilIface, .bool false]) w := run_typeAssert_lacksB Tryd.underlying115 (by kernel_rfl) (by kernel_rfl) v xT w
theorem Tryd.noUnwrap (v : Value) (xT : TypeId) (w : World) : (Instr.typeAssert (.iface 58 v) xT 118 true).run Tryd.prog w = .ok (.tuple #[.nilIface, .bool false]) w := run_typeAssert_lacksB Tryd.underlying118 (by kernel_rfl) (by kernel_rfl) v xT w
theorem Tryd.noUnwraps (v : Value) (xT : TypeId) (w : World) : (Instr.typeAssert (.iface 58 v) xT 120 true).run Tryd.prog w = .ok (.tuple #[.nilIface, .bool false]) w := run_typeAssert_lacksB Tryd.underlying120 (by kernel_rfl) (by kernel_rfl) v xT w

theorem is_loop_other (a b : Int) (hab : (a == b) = false) (w : World) :
    Calls Tryd.prog 50 #[.iface 58 (.int .i64 a), .iface 58 (.int .i64 b), .bool true] w fun e w' => e = .returned (.bool false) ∧ w = w' := by
  obtain ⟨i, hi, hcmp⟩ := Option.map_eq_some_iff.1 Tryd.isComp
  have heq := fun w => run_eql_iface_int (P := Tryd.prog) w a b Tryd.underlying46 Tryd.underlying58 hi hcmp
  simp only [hab] at heq
  clear hi hcmp hab
  have n1 := Tryd.noIs
  have n2 := Tryd.noUnwrap
  have n3 := Tryd.noUnwraps
  go_enter Tryd.func50, Tryd.ntmps50
  go_wp2
  refine wp_loop_rounds 1 ?_
  rw [rounds_succ]
  go_wp2
  go_ret
  exact ⟨rfl, rfl⟩

/-- errors.Is(k, j), of two kinds -/
theorem is_other (a b : Int) (hab : (a == b) = false) (w : World) :
    Calls Tryd.prog 18 #[.iface 58 (.int .i64 a), .iface 58 (.int .i64 b)] w fun e w' => e = .returned (.bool false) ∧ w = w' := by
  have tT := Tryd.isTypeOf
  have cT := Tryd.isComparable
  have HH := Lib.hid (is_loop_other a b hab w)
  clear hab
  go_enter Tryd.func18, Tryd.ntmps18
  go_wp2_with (go_at_call 50; refine HH.out.mono ?_; rintro e w' ⟨rfl, rfl⟩)
  go_ret
  exact ⟨rfl, rfl⟩
end Go.Proofs.YtclcnepkgjcmcaaDoor

/- The laws' own world: made, where no cell is free. -/
namespace Go.Proofs.YtclcnepkgjcmcaaDoor
open Go.RowKit

/-- 'full' is stored -/
theorem Ws.setFull {w : World} {x q p b : Nat} {e : Int} {G : Geo} {M : Md} {N B : Nat} {blk : Nat → Nat} {fv : Nat → Value} {al : Value} {bad full : Bool} {K : Gk} (s : Ws w x q p b e G M N B blk fv al bad full K) (hxg : x ≠ 0) (c : Bool) : Ws (w.setCell ⟨x, 19, none⟩ (.bool c)) x q p b e G M N B blk fv al bad c K := by
  obtain ⟨H, R, A, D, h, hs, hk⟩ := s.heap
  have t : Turns (fun k => k = x) w (w.setCell ⟨x, 19, none⟩ (.bool c)) := (Turns.refl (fun k => k = x) w).setCell (p := ⟨x, 19, none⟩) (fun _ => rfl) _
  have := s.lq; have := s.lp; have := s.lb; have hx := s.lx; have ap := s.apart
  refine ⟨?_, s.things.turns t (fun i hi e => by have := s.high i hi; omega) (fun i hi g hg e => by have := ((s.things.rows i hi).lt g hg).1; omega), s.all.turns t (fun g hg e => by have := (s.all.lt g hg).1; omega), ⟨H, R, A, D, h.turns t (fun e => ap (e ▸ .inl rfl)) (fun e => ap (e ▸ .inr (.inl rfl))) (fun e => ap (e ▸ .inr (.inr rfl))) (fun e => hxg e.symm), hs, hk⟩, s.lq, s.lp, s.lb, s.lx, s.apart, s.high, Nat.le_trans s.sz t.size⟩
  exact s.cells.stored 19 _
/-- what is stored in x's own cells is nothing to what is amid 'made' -/
theorem Wn.setBad {w : World} {x q p b : Nat} {e : Int} {G : Geo} {M M1 : Md} {N B : Nat} {blk : Nat → Nat} {fv : Nat → Value} {al : Value} {bad full : Bool} {K : Gk} (s : Wn w x q p b e G M M1 N B blk fv al bad full K) (hxg : x ≠ 0) (c : Bool) : Wn (w.setCell ⟨x, 18, none⟩ (.bool c)) x q p b e G M M1 N B blk fv al c full K := by
  obtain ⟨H, R, A, D, h, hs, hk⟩ := s.heap
  have t : Turns (fun k => k = x) w (w.setCell ⟨x, 18, none⟩ (.bool c)) := (Turns.refl (fun k => k = x) w).setCell (p := ⟨x, 18, none⟩) (fun _ => rfl) _
  have := s.lq; have := s.lp; have := s.lb; have hx := s.lx; have ap := s.apart
  refine ⟨?_, s.things.turns t (fun i hi e => by have := s.high i hi; omega) (fun i hi g hg e => by have := ((s.things.rows i hi).lt g hg).1; omega), s.all.turns t (fun g hg e => by have := (s.all.lt g hg).1; omega), ⟨H, R, A, D, h.turns t (fun e => ap (e ▸ .inl rfl)) (fun e => ap (e ▸ .inr (.inl rfl))) (fun e => ap (e ▸ .inr (.inr rfl))) (fun e => hxg e.symm), hs, hk⟩, s.lq, s.lp, s.lb, s.lx, s.apart, s.high, Nat.le_trans s.sz t.size⟩
  exact s.cells.stored 18 _

set_option maxHeartbeats 2000000 in
set_option maxRecDepth 100000 in
theorem Ws.made_no {w : World} {x q p b : Nat} {e e' : Int} {G : Geo} {M : Md} {N B : Nat} {blk : Nat → Nat} {fv : Nat → Value} {al : Value} {full : Bool} {K K' : Gk} (s : Ws w x q p b e G M N B blk fv al false full K) (hxg : x ≠ 0) (r : Nat) (f : Int) (n : Nat) (F : Option Addr) (m c : Nat)
    (hA : Calls Tryd.prog 12 #[.pointer (some ⟨q, 0, none⟩), .int .i64 f, .int .i64 0, .int .i64 n] w fun r w' => r = .returned (.tuple #[.int .u64 0, er 4]) ∧ Ws w' x q p b e' G M N B blk fv al false full K' ∧ Turns (Own3 q p b) w w') :
    Calls Tryd.prog 21 #[.pointer (some ⟨x, 0, none⟩), .int .i64 r, .int .i64 f, .int .i64 n, .slice F m c] w fun o w' => o = .returned (.tuple #[]) ∧ Ws w' x q p b e' G M N B blk fv al false true K' ∧ Turns (DoT w x q p b B) w w' := by
  have AL := Lib.hid hA
  have p0 : w.cell? ⟨x, 0, none⟩ = some (.pointer (some ⟨q, 0, none⟩)) := s.cells.cell 0
  rw [er_yes (by omega)] at AL
  have ES := Lib.hid (fun w1 => is_same 4 w1)
  clear hA s
  go_enter Tryd.func21, Tryd.ntmps21
  go_wp2_with (first
    | (go_at_call 12
       refine AL.out.mono ?_
       rintro o w1 ⟨rfl, s1, t1⟩
       have k18 : w1.cell? ⟨x, 18, none⟩ = some (.bool false) := (s1.cells.cell 18).trans rfl
       have k19 : w1.cell? ⟨x, 19, none⟩ = some (.bool full) := (s1.cells.cell 19).trans rfl
       have f18 := s1.cells.free 18
       have f19 := s1.cells.free 19
       have S2 := Lib.hid ((s1.setFull hxg true).setBad hxg false)
       clear s1)
    | (go_at_call 18; refine (ES.out _).mono ?_; rintro o w3 ⟨rfl, rfl⟩))
  refine bodyPost_ret (results_none rfl _ _ _) rfl ?_
  exact ⟨rfl, S2.out, ((t1.mono fun _ _ h => .inl (.inr h)).setCell (p := ⟨x, 19, none⟩) (fun _ => .inl (.inl rfl)) _).setCell (p := ⟨x, 18, none⟩) (fun _ => .inl (.inl rfl)) _⟩
end Go.Proofs.YtclcnepkgjcmcaaDoor

/- The laws' own world: the new thing goes among the things. -/
namespace Go.Proofs.YtclcnepkgjcmcaaDoor
open Go.RowKit

def upd {α : Type} (f : Nat → α) (N : Nat) (a : α) (i : Nat) : α := if i = N then a else f i
theorem upd_at {α : Type} (f : Nat → α) (N : Nat) (a : α) : upd f N a N = a := if_pos rfl
theorem upd_lo {α : Type} (f : Nat → α) {N : Nat} (a : α) {i : Nat} (h : i < N) : upd f N a i = f i := if_neg (by omega)
theorem vp_upd {blk : Nat → Nat} {N bt : Nat} {v : V} (h : v.Has (fun t => t < N)) : vp (upd blk N bt) v = vp blk v := by
  cases v with
  | w y => rfl
  | t t => show Value.pointer (some ⟨upd blk N bt t, 0, none⟩) = _; rw [upd_lo blk bt h]; rfl
theorem wcells_upd {q : Nat} {blk : Nat → Nat} {N bt : Nat} {reg : Nat → V} {al : Value} {bad full : Bool} (h : ∀ r, r < 8 → (reg r).Has (fun t => t < N)) : wcells q (upd blk N bt) reg al bad full = wcells q blk reg al bad full := by
  unfold wcells rcells
  rw [vp_upd (h 0 (by omega)), vp_upd (h 1 (by omega)), vp_upd (h 2 (by omega)), vp_upd (h 3 (by omega)), vp_upd (h 4 (by omega)), vp_upd (h 5 (by omega)), vp_upd (h 6 (by omega)), vp_upd (h 7 (by omega))]
theorem map_upd (blk : Nat → Nat) (bt : Nat) : ∀ N, (List.range (N + 1)).map (upd blk N bt) = (List.range N).map blk ++ [bt] := fun N => by
  rw [List.range_succ, List.map_append]
  congr 1
  · refine List.map_congr_left fun i hi => upd_lo blk bt (by simpa using hi)
  · simp [upd_at]

section
variable {w w' : World} {x q p b bt : Nat} {e : Int} {G : Geo} {M M1 : Md} {N B : Nat} {blk : Nat → Nat} {fv : Nat → Value} {al al' fN : Value} {bad full : Bool} {K : Gk}
theorem Wn.done (s : Wn w x q p b e G M M1 N B blk fv al bad full K) (hx : Ext M M1 N) (hxg : x ≠ 0) (hb : Lies w bt 64 [.int .i64 (M1.form N), fN, .int .u64 (8 * M1.cell N + 1)]) (hrow : OwnV w B fN blk (M1.fld N) (M1.len N))
    (hB : B ≤ bt) (hbt : ∀ i, i < N → blk i ≠ bt) (hown : ∀ i, i < N → ∀ g, fN.ownBlock = some g → (fv i).ownBlock ≠ some g) (hnm : ∀ j, j < M1.len N → (M1.fld N j).Has (fun t => t < N)) (hl3 : M1.form N = 3 → M1.len N = 2)
    (t : Turns (fun k => k = x ∨ al.ownBlock = some k) w w') (hcx : Lies w' x 43 (wcells q blk M.reg al' bad full)) (hall : OwnP w' B al' ((List.range N).map blk ++ [bt])) :
    Ws w' x q p b e G M1 (N + 1) B (upd blk N bt) (upd fv N fN) al' bad full K ∧ ∃ H R A D, Tr w' q p b G H ∧ Safe e G H R M1 A D ∧ K.low (N + 1) H R A D ∧ A N := by
  obtain ⟨H, R, A, D, h, hs, hk, hN, -⟩ := s.heap
  have := s.lq; have := s.lp; have := s.lb; have hlx := s.lx; have ap := s.apart
  have far : ∀ k, k < B → k ≠ x → ¬ (k = x ∨ al.ownBlock = some k) := fun k hk hkx h => h.elim hkx (fun h => by have := (s.all.lt k h).1; omega)
  have hT : Tr w' q p b G H := h.turns t (far q (by omega) (fun e => ap (e ▸ .inl rfl))) (far p (by omega) (fun e => ap (e ▸ .inr (.inl rfl)))) (far b (by omega) (fun e => ap (e ▸ .inr (.inr rfl)))) (far _ (by have := h.apart; omega) (fun e => hxg e.symm))
  have fth : ∀ {k : Nat} {cs : List Value}, B ≤ k → Lies w k 64 cs → ¬ (k = x ∨ al.ownBlock = some k) := fun hk hl h => h.elim (fun h => by omega) (fun h => s.all.apart hl (by decide) _ h rfl)
  have frw : ∀ {v : Value} {bl : Nat → Nat} {f : Nat → V} {n : Nat}, OwnV w B v bl f n → ∀ g, v.ownBlock = some g → ¬ (g = x ∨ al.ownBlock = some g) := fun ho g hg h => h.elim (fun h => by have := (ho.lt g hg).1; omega) (fun h => own_types s.all ho (by decide) hg h)
  have hreg : ∀ r, r < 8 → (M1.reg r).Has (fun t => t < N) := fun r hr => by rw [hx.reg]; exact s.things.regs r hr
  have cong : ∀ {f : Nat → V} {n : Nat}, (∀ j, j < n → (f j).Has (fun t => t < N)) → vcells (upd blk N bt) f n = vcells blk f n := fun hf => vcells_congr fun j hj => ⟨rfl, vp_upd (hf j hj)⟩
  have up : ∀ {v : V}, v.Has (fun t => t < N) → v.Has (fun t => t < N + 1) := fun h => V.Has.mono (fun t ht => by omega) h
  refine ⟨⟨?_, ⟨fun i hi => ?_, fun i hi => ?_, fun i j hi hj e => ?_, fun i j hi hj e g hg => ?_, fun i hi j hj => ?_, fun r hr => up (hreg r hr), fun i hi hf => ?_⟩, ?_, ⟨H, R, A, D, hT, hs, hk⟩, s.lq, s.lp, s.lb, s.lx, s.apart, fun i hi => ?_, Nat.le_trans s.sz t.size⟩, H, R, A, D, hT, hs, hk, hN⟩
  · rw [wcells_upd hreg, hx.reg]
    exact hcx
  · by_cases e : i = N
    · subst e
      rw [upd_at, upd_at]
      exact hb.turns t (fth hB hb)
    · have hi2 : i < N := by omega
      rw [upd_lo _ _ hi2, upd_lo _ _ hi2, hx.form i hi2, hx.cell i hi2]
      exact (s.things.here i hi2).turns t (fth (s.high i hi2) (s.things.here i hi2))
  · by_cases e : i = N
    · subst e
      rw [upd_at]
      have := hrow.turns t (frw hrow)
      unfold OwnV at this ⊢
      rw [cong hnm]
      exact this
    · have hi2 : i < N := by omega
      rw [upd_lo _ _ hi2, hx.fld i hi2, hx.len i hi2]
      have := (s.things.rows i hi2).turns t (frw (s.things.rows i hi2))
      unfold OwnV at this ⊢
      rw [cong (s.things.named i hi2)]
      exact this
  · by_cases e1 : i = N <;> by_cases e2 : j = N
    · omega
    · subst e1
      rw [upd_at, upd_lo _ _ (by omega)] at e
      exact absurd e.symm (hbt j (by omega))
    · subst e2
      rw [upd_at, upd_lo _ _ (by omega)] at e
      exact absurd e (hbt i (by omega))
    · rw [upd_lo _ _ (by omega), upd_lo _ _ (by omega)] at e
      exact s.things.inj i j (by omega) (by omega) e
  · by_cases e1 : i = N <;> by_cases e2 : j = N
    · omega
    · subst e1
      rw [upd_at] at hg
      rw [upd_lo _ _ (by omega)]
      exact hown j (by omega) g hg
    · subst e2
      rw [upd_lo _ _ (by omega)] at hg
      rw [upd_at]
      exact fun h => hown i (by omega) g h hg
    · rw [upd_lo _ _ (by omega)] at hg
      rw [upd_lo _ _ (by omega)]
      exact s.things.own i j (by omega) (by omega) e g hg
  · by_cases e : i = N
    · subst e
      exact up (hnm j hj)
    · rw [hx.fld i (by omega)]
      exact up (s.things.named i (by omega) j (by rw [← hx.len i (by omega)]; exact hj))
  · by_cases e : i = N
    · subst e
      exact hl3 hf
    · rw [hx.len i (by omega)]
      exact s.things.len3 i (by omega) (by rw [← hx.form i (by omega)]; exact hf)
  · rw [map_upd]
    exact hall
  · by_cases e : i = N
    · subst e
      rw [upd_at]
      exact hB
    · rw [upd_lo _ _ (by omega)]
      exact s.high i (by omega)
end
end Go.Proofs.YtclcnepkgjcmcaaDoor
