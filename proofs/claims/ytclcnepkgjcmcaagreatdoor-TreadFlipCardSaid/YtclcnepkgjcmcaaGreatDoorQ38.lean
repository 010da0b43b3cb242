/- errors.Is over two errors that are kinds of package api, bare (not wrapped): true just if they are the same kind. Go's own text of errors.Is is walked. -/
import Derived.Test.YtclcnepkgjcmcaaGreatDoorRows
import Derived.WalkKit
import Derived.ProofKit
import Derived.OpenShut
import Derived.LaidEql
import Derived.Stop.Asserts
import Derived.RowKitTokens
import Derived.Handy
import Derived.Lib.Hide
import Derived.Test.YtclcnepkgjcmcaaGreatDoorQ37
namespace Go.Proofs.YtclcnepkgjcmcaaGreatDoor
open Go.RowKit Go.Extern.Stop Go.Stop Go.Extern

section
variable {P : Program} (w : World)
theorem run_equalIn_iface_int (d : Nat) {ti tn : TypeId} {ms : Array (String × TypeId)} {i : TypeInfo} {k : IntKind} (a b : Int)
    (hi : P.underlying ti = some (.interface ms)) (hn : P.underlying tn = some (.int k)) (hinfo : P.info? tn = some i) (hcomp : i.comparable = true) :
    (Op.equalIn (d + 2) ti (.iface tn (.int k a)) (.iface tn (.int k b))).run P w = .ok (a == b) w := by
  simp [Op.equalIn, run_underlying hi, run_underlying hn, typeInfo, hinfo, hcomp]
/-- two interface values of one integer type are equal as their numbers are -/
theorem run_eql_iface_int {ti tn : TypeId} {ms : Array (String × TypeId)} {i : TypeInfo} {k : IntKind} (a b : Int)
    (hi : P.underlying ti = some (.interface ms)) (hn : P.underlying tn = some (.int k)) (hinfo : P.info? tn = some i) (hcomp : i.comparable = true) :
    (binOp .eql ti (.iface tn (.int k a)) (.iface tn (.int k b))).run P w = .ok (.bool (a == b)) w := by
  simp only [binOp]
  simp [Op.equal, Op.maxDepth, run_equalIn_iface_int w 9998 a b hi hn hinfo hcomp]
end

theorem Tryz.isTypeOf (v : Value) (w : World) : (callFunc 53 #[.iface 61 v]).run Tryz.prog w = .ok (.value (.iface 115 (.agg #[.pointer (some ⟨1, 61, none⟩)]))) w := by kernel_rfl
theorem Tryz.isComparable (w : World) : (callFunc 112 #[.agg #[.pointer (some ⟨1, 61, none⟩)]]).run Tryz.prog w = .ok (.value (.bool true)) w := by kernel_rfl
theorem Tryz.isComp : (Tryz.prog.info? 61).map (·.comparable) = some true := by kernel_rfl

theorem is_loop_same (a : Int) (w : World) :
    Calls Tryz.prog 54 #[.iface 61 (.int .i64 a), .iface 61 (.int .i64 a), .bool true] w fun e w' => e = .returned (.bool true) ∧ w = w' := by
  obtain ⟨i, hi, hcmp⟩ := Option.map_eq_some_iff.1 Tryz.isComp
  have heq := fun w => run_eql_iface_int (P := Tryz.prog) w a a Tryz.underlying51 Tryz.underlying61 hi hcmp
  simp only [beq_self_eq_true] at heq
  clear hi hcmp
  go_enter Tryz.func54, Tryz.ntmps54
  go_wp2
  refine wp_loop_rounds 1 ?_
  rw [rounds_succ]
  go_wp2
  go_ret
  exact ⟨rfl, rfl⟩

/-- errors.Is(k, k), k a kind -/
theorem is_same (a : Int) (w : World) :
    Calls Tryz.prog 22 #[.iface 61 (.int .i64 a), .iface 61 (.int .i64 a)] w fun e w' => e = .returned (.bool true) ∧ w = w' := by
  have tT := Tryz.isTypeOf
  have cT := Tryz.isComparable
  go_enter Tryz.func22, Tryz.ntmps22
  go_wp2_with (go_at_call 54; refine (is_loop_same _ _).mono ?_; rintro e w' ⟨rfl, rfl⟩)
  go_ret
  exact ⟨rfl, rfl⟩

theorem Tryz.noIs (v : Value) (xT : TypeId) (w : World) : (Instr.typeAssert (.iface 61 v) xT 117 true).run Tryz.prog w = .ok (.tuple #[.nilIface, .bool false]) w := run_typeAssert_lacksB Tryz.underlying117 (by kernel_rfl) (by kernel_rfl) v xT w
theorem Tryz.noUnwrap (v : Value) (xT : TypeId) (w : World) : (Instr.typeAssert (.iface 61 v) xT 120 true).run Tryz.prog w = .ok (.tuple #[.nilIface, .bool false]) w := run_typeAssert_lacksB Tryz.underlying120 (by kernel_rfl) (by kernel_rfl) v xT w
theorem Tryz.noUnwraps (v : Value) (xT : TypeId) (w : World) : (Instr.typeAssert (.iface 61 v) xT 122 true).run Tryz.prog w = .ok (.tuple #[.nilIface, .bool false]) w := run_typeAssert_lacksB Tryz.underlying122 (by kernel_rfl) (by kernel_rfl) v xT w

theorem is_loop_other (a b : Int) (hab : (a == b) = false) (w : World) :
    Calls Tryz.prog 54 #[.iface 61 (.int .i64 a), .iface 61 (.int .i64 b), .bool true] w fun e w' => e = .returned (.bool false) ∧ w = w' := by
  obtain ⟨i, hi, hcmp⟩ := Option.map_eq_some_iff.1 Tryz.isComp
  have heq := fun w => run_eql_iface_int (P := Tryz.prog) w a b Tryz.underlying51 Tryz.underlying61 hi hcmp
  simp only [hab] at heq
  clear hi hcmp hab
  have n1 := Tryz.noIs
  have n2 := Tryz.noUnwrap
  have n3 := Tryz.noUnwraps
  go_enter Tryz.func54, Tryz.ntmps54
  go_wp2
  refine wp_loop_rounds 1 ?_
  rw [rounds_succ]
  go_wp2
  go_ret
  exact ⟨rfl, rfl⟩

/-- errors.Is(k, j), of two kinds -/
theorem is_other (a b : Int) (hab : (a == b) = false) (w : World) :
    Calls Tryz.prog 22 #[.iface 61 (.int .i64 a), .iface 61 (.int .i64 b)] w fun e w' => e = .returned (.bool false) ∧ w = w' := by
  have tT := Tryz.isTypeOf
  have cT := Tryz.isComparable
  have HH := Lib.hid (is_loop_other a b hab w)
  clear hab
  go_enter Tryz.func22, Tryz.ntmps22
  go_wp2_with (go_at_call 54; refine HH.out.mono ?_; rintro e w' ⟨rfl, rfl⟩)
  go_ret
  exact ⟨rfl, rfl⟩
end Go.Proofs.YtclcnepkgjcmcaaGreatDoor

/- The laws' own world: made, where no cell is free. -/
namespace Go.Proofs.YtclcnepkgjcmcaaGreatDoor
open Go.RowKit

/-- 'full' is stored -/
theorem Ws.setFull {w : World} {x q p b : Nat} {e : Int} {G : Geo} {M : Md} {N B : Nat} {blk : Nat → Nat} {fv : Nat → Value} {al : Value} {bad full : Bool} {K : Gk} (s : Ws w x q p b e G M N B blk fv al bad full K) (hxg : x ≠ 0) (c : Bool) : Ws (w.setCell ⟨x, 19, none⟩ (.bool c)) x q p b e G M N B blk fv al bad c K := by
  obtain ⟨H, R, A, D, h, hs, hk⟩ := s.heap
  have t : Turns (fun k => k = x) w (w.setCell ⟨x, 19, none⟩ (.bool c)) := (Turns.refl (fun k => k = x) w).setCell (p := ⟨x, 19, none⟩) (fun _ => rfl) _
  have := s.lq; have := s.lp; have := s.lb; have hx := s.lx; have ap := s.apart
  refine ⟨?_, s.things.turns t (fun i hi e => by have := s.high i hi; omega) (fun i hi g hg e => by have := ((s.things.rows i hi).lt g hg).1; omega), s.all.turns t (fun g hg e => by have := (s.all.lt g hg).1; omega), ⟨H, R, A, D, h.turns t (fun e => ap (e ▸ .inl rfl)) (fun e => ap (e ▸ .inr (.inl rfl))) (fun e => ap (e ▸ .inr (.inr rfl))) (fun e => hxg e.symm), hs, hk⟩, s.lq, s.lp, s.lb, s.lx, s.apart, s.high, Nat.le_trans s.sz t.size⟩
  exact s.cells.stored 19 _
/-- what is stored in x's own cells is nothing to what is amid 'made' -/
theorem Wn.setBad {w : World} {x q p b : Nat} {e : Int} {G : Geo} {M M1 : Md} {N B : Nat} {blk : Nat → Nat} {fv : Nat → Value} {al : Value} {bad full : Bool} {K : Gk} (s : Wn w x q p b e G M M1 N B blk fv al bad full K) (hxg : x ≠ 0) (c : Bool) : Wn (w.setCell ⟨x, 18, none⟩ (.bool c)) x q p b e G M M1 N B blk fv al c full K := by
  obtain ⟨H, R, A, D, h, hs, hk⟩ := s.heap
  have t : Turns (fun k => k = x) w (w.setCell ⟨x, 18, none⟩ (.bool c)) := (Turns.refl (fun k => k = x) w).setCell (p := ⟨x, 18, none⟩) (fun _ => rfl) _
  have := s.lq; have := s.lp; have := s.lb; have hx := s.lx; have ap := s.apart
  refine ⟨?_, s.things.turns t (fun i hi e => by have := s.high i hi; omega) (fun i hi g hg e => by have := ((s.things.rows i hi).lt g hg).1; omega), s.all.turns t (fun g hg e => by have := (s.all.lt g hg).1; omega), ⟨H, R, A, D, h.turns t (fun e => ap (e ▸ .inl rfl)) (fun e => ap (e ▸ .inr (.inl rfl))) (fun e => ap (e ▸ .inr (.inr rfl))) (fun e => hxg e.symm), hs, hk⟩, s.lq, s.lp, s.lb, s.lx, s.apart, s.high, Nat.le_trans s.sz t.size⟩
  exact s.cells.stored 18 _

set_option maxHeartbeats 2000000 in
set_option maxRecDepth 100000 in
theorem Ws.made_no {w : World} {x q p b : Nat} {e e' : Int} {G : Geo} {M : Md} {N B : Nat} {blk : Nat → Nat} {fv : Nat → Value} {al : Value} {full : Bool} {K K' : Gk} (s : Ws w x q p b e G M N B blk fv al false full K) (hxg : x ≠ 0) (r : Nat) (f : Int) (n : Nat) (F : Option Addr) (m c : Nat)
    (hA : Calls Tryz.prog 17 #[.pointer (some ⟨q, 0, none⟩), .int .i64 f, .int .i64 0, .int .i64 n] w fun r w' => r = .returned (.tuple #[.int .u64 0, er 4]) ∧ Ws w' x q p b e' G M N B blk fv al false full K' ∧ Turns (Own3 q p b) w w') :
    Calls Tryz.prog 25 #[.pointer (some ⟨x, 0, none⟩), .int .i64 r, .int .i64 f, .int .i64 n, .slice F m c] w fun o w' => o = .returned (.tuple #[]) ∧ Ws w' x q p b e' G M N B blk fv al false true K' ∧ Turns (DoT w x q p b B) w w' := by
  have AL := Lib.hid hA
  have p0 : w.cell? ⟨x, 0, none⟩ = some (.pointer (some ⟨q, 0, none⟩)) := s.cells.cell 0
  rw [er_yes (by omega)] at AL
  have ES := Lib.hid (fun w1 => is_same 4 w1)
  clear hA s
  go_enter Tryz.func25, Tryz.ntmps25
  go_wp2_with (first
    | (go_at_call 17
       refine AL.out.mono ?_
       rintro o w1 ⟨rfl, s1, t1⟩
       have k18 : w1.cell? ⟨x, 18, none⟩ = some (.bool false) := (s1.cells.cell 18).trans rfl
       have k19 : w1.cell? ⟨x, 19, none⟩ = some (.bool full) := (s1.cells.cell 19).trans rfl
       have f18 := s1.cells.free 18
       have f19 := s1.cells.free 19
       have S2 := Lib.hid ((s1.setFull hxg true).setBad hxg false)
       clear s1)
    | (go_at_call 22; refine (ES.out _).mono ?_; rintro o w3 ⟨rfl, rfl⟩))
  refine bodyPost_ret (results_none rfl _ _ _) rfl ?_
  exact ⟨rfl, S2.out, ((t1.mono fun _ _ h => .inl (.inr h)).setCell (p := ⟨x, 19, none⟩) (fun _ => .inl (.inl rfl)) _).setCell (p := ⟨x, 18, none⟩) (fun _ => .inl (.inl rfl)) _⟩
end Go.Proofs.YtclcnepkgjcmcaaGreatDoor

/- The laws' own world: the new thing goes among the things. -/
namespace Go.Proofs.YtclcnepkgjcmcaaGreatDoor
open Go.RowKit

def upd {α : Type} (f : Nat → α) (N : Nat) (a : α) (i : Nat) : α := if i = N then a else f i
theorem upd_at {α : Type} (f : Nat → α) (N : Nat) (a : α) : upd f N a N = a := if_pos rfl
theorem upd_lo {α : Type} (f : Nat → α) {N : Nat} (a : α) {i : Nat} (h : i < N) : upd f N a i = f i := if_neg (by omega)
theorem vp_upd {blk : Nat → Nat} {N bt : Nat} {v : V} (h : v.Has (fun t => t < N)) : vp (upd blk N bt) v = vp blk v := by
  cases v with
  | w y => rfl
  | t t => show Value.pointer (some ⟨upd blk N bt t, 0, none⟩) = _; rw [upd_lo blk bt h]; rfl
theorem wcells_upd {q : Nat} {blk : Nat → Nat} {N bt : Nat} {reg : Nat → V} {al : Value} {bad full : Bool} (h : ∀ r, r < 8 → (reg r).Has (fun t => t < N)) : wcells q (upd blk N bt) reg al bad full = wcells q blk reg al bad full := by
  unfold wcells rcells
  rw [vp_upd (h 0 (by omega)), vp_upd (h 1 (by omega)), vp_upd (h 2 (by omega)), vp_upd (h 3 (by omega)), vp_upd (h 4 (by omega)), vp_upd (h 5 (by omega)), vp_upd (h 6 (by omega)), vp_upd (h 7 (by omega))]
theorem map_upd (blk : Nat → Nat) (bt : Nat) : ∀ N, (List.range (N + 1)).map (upd blk N bt) = (List.range N).map blk ++ [bt] := fun N => by
  rw [List.range_succ, List.map_append]
  congr 1
  · refine List.map_congr_left fun i hi => upd_lo blk bt (by simpa using hi)
  · simp [upd_at]

section
variable {w w' : World} {x q p b bt : Nat} {e : Int} {G : Geo} {M M1 : Md} {N B : Nat} {blk : Nat → Nat} {fv : Nat → Value} {al al' fN : Value} {bad full : Bool} {K : Gk}
theorem Wn.done (s : Wn w x q p b e G M M1 N B blk fv al bad full K) (hx : Ext M M1 N) (hxg : x ≠ 0) (hb : Lies w bt 67 [.int .i64 (M1.form N), fN, .int .u64 (8 * M1.cell N + 1)]) (hrow : OwnV w B fN blk (M1.fld N) (M1.len N))
    (hB : B ≤ bt) (hbt : ∀ i, i < N → blk i ≠ bt) (hown : ∀ i, i < N → ∀ g, fN.ownBlock = some g → (fv i).ownBlock ≠ some g) (hnm : ∀ j, j < M1.len N → (M1.fld N j).Has (fun t => t < N)) (hl3 : M1.form N = 3 → M1.len N = 2)
    (t : Turns (fun k => k = x ∨ al.ownBlock = some k) w w') (hcx : Lies w' x 42 (wcells q blk M.reg al' bad full)) (hall : OwnP w' B al' ((List.range N).map blk ++ [bt])) :
    Ws w' x q p b e G M1 (N + 1) B (upd blk N bt) (upd fv N fN) al' bad full K ∧ ∃ H R A D, Tr w' q p b G H ∧ Safe e G H R M1 A D ∧ K.low (N + 1) H R A D ∧ A N := by
  obtain ⟨H, R, A, D, h, hs, hk, hN, -⟩ := s.heap
  have := s.lq; have := s.lp; have := s.lb; have hlx := s.lx; have ap := s.apart
  have far : ∀ k, k < B → k ≠ x → ¬ (k = x ∨ al.ownBlock = some k) := fun k hk hkx h => h.elim hkx (fun h => by have := (s.all.lt k h).1; omega)
  have hT : Tr w' q p b G H := h.turns t (far q (by omega) (fun e => ap (e ▸ .inl rfl))) (far p (by omega) (fun e => ap (e ▸ .inr (.inl rfl)))) (far b (by omega) (fun e => ap (e ▸ .inr (.inr rfl)))) (far _ (by have := h.apart; omega) (fun e => hxg e.symm))
  have fth : ∀ {k : Nat} {cs : List Value}, B ≤ k → Lies w k 67 cs → ¬ (k = x ∨ al.ownBlock = some k) := fun hk hl h => h.elim (fun h => by omega) (fun h => s.all.apart hl (by decide) _ h rfl)
  have frw : ∀ {v : Value} {bl : Nat → Nat} {f : Nat → V} {n : Nat}, OwnV w B v bl f n → ∀ g, v.ownBlock = some g → ¬ (g = x ∨ al.ownBlock = some g) := fun ho g hg h => h.elim (fun h => by have := (ho.lt g hg).1; omega) (fun h => own_types s.all ho (by decide) hg h)
  have hreg : ∀ r, r < 8 → (M1.reg r).Has (fun t => t < N) := fun r hr => by rw [hx.reg]; exact s.things.regs r hr
  have cong : ∀ {f : Nat → V} {n : Nat}, (∀ j, j < n → (f j).Has (fun t => t < N)) → vcells (upd blk N bt) f n = vcells blk f n := fun hf => vcells_congr fun j hj => ⟨rfl, vp_upd (hf j hj)⟩
  have up : ∀ {v : V}, v.Has (fun t => t < N) → v.Has (fun t => t < N + 1) := fun h => V.Has.mono (fun t ht => by omega) h
  refine ⟨⟨?_, ⟨fun i hi => ?_, fun i hi => ?_, fun i j hi hj e => ?_, fun i j hi hj e g hg => ?_, fun i hi j hj => ?_, fun r hr => up (hreg r hr), fun i hi hf => ?_⟩, ?_, ⟨H, R, A, D, hT, hs, hk⟩, s.lq, s.lp, s.lb, s.lx, s.apart, fun i hi => ?_, Nat.le_trans s.sz t.size⟩, H, R, A, D, hT, hs, hk, hN⟩
  · rw [wcells_upd hreg, hx.reg]
    exact hcx
  · by_cases e : i = N
    · subst e
      rw [upd_at, upd_at]
      exact hb.turns t (fth hB hb)
    · have hi2 : i < N := by omega
      rw [upd_lo _ _ hi2, upd_lo _ _ hi2, hx.form i hi2, hx.cell i hi2]
      exact (s.things.here i hi2).turns t (fth (s.high i hi2) (s.things.here i hi2))
  · by_cases e : i = N
    · subst e
      rw [upd_at]
      have := hrow.turns t (frw hrow)
      unfold OwnV at this ⊢
      rw [cong hnm]
      exact this
    · have hi2 : i < N := by omega
      rw [upd_lo _ _ hi2, hx.fld i hi2, hx.len i hi2]
      have := (s.things.rows i hi2).turns t (frw (s.things.rows i hi2))
      unfold OwnV at this ⊢
      rw [cong (s.things.named i hi2)]
      exact this
  · by_cases e1 : i = N <;> by_cases e2 : j = N
    · omega
    · subst e1
      rw [upd_at, upd_lo _ _ (by omega)] at e
      exact absurd e.symm (hbt j (by omega))
    · subst e2
      rw [upd_at, upd_lo _ _ (by omega)] at e
      exact absurd e (hbt i (by omega))
    · rw [upd_lo _ _ (by omega), upd_lo _ _ (by omega)] at e
      exact s.things.inj i j (by omega) (by omega) e
  · by_cases e1 : i = N <;> by_cases e2 : j = N
    · omega
    · subst e1
      rw [upd_at] at hg
      rw [upd_lo _ _ (by omega)]
      exact hown j (by omega) g hg
    · subst e2
      rw [upd_lo _ _ (by omega)] at hg
      rw [upd_at]
      exact fun h => hown i (by omega) g h hg
    · rw [upd_lo _ _ (by omega)] at hg
      rw [upd_lo _ _ (by omega)]
      exact s.things.own i j (by omega) (by omega) e g hg
  · by_cases e : i = N
    · subst e
      exact up (hnm j hj)
    · rw [hx.fld i (by omega)]
      exact up (s.things.named i (by omega) j (by rw [← hx.len i (by omega)]; exact hj))
  · by_cases e : i = N
    · subst e
      exact hl3 hf
    · rw [hx.len i (by omega)]
      exact s.things.len3 i (by omega) (by rw [← hx.form i (by omega)]; exact hf)
  · rw [map_upd]
    exact hall
  · by_cases e : i = N
    · subst e
      rw [upd_at]
      exact hB
    · rw [upd_lo _ _ (by omega)]
      exact s.high i (by omega)
end
end Go.Proofs.YtclcnepkgjcmcaaGreatDoor
