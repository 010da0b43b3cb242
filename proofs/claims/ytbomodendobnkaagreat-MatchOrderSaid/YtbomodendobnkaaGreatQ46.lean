/- Strings that can be read, put behind one's own row of strings. -/
import Derived.Test.YtbomodendobnkaaGreatQ31
import Derived.Maps.AppendAt
import Derived.Test.YtbomodendobnkaaGreatQ45
namespace Go.Proofs.YtbomodendobnkaaGreat
open Go.ChangeShapes Go.WideShapes Go.ChangeAt Go.RowKit Go.Deep

theorem Tryz.infoStr : (Tryz.prog.info? 9).map (fun i => (i.zero, i.size, i.bytes)) = some (some (.string ⟨#[]⟩), 1, 16) := by kernel_rfl
def svs (l : List (List UInt8)) : List Value := l.map fun x => .string ⟨x.toArray⟩
section
variable {w w' : World} {B : Nat} {v x : Value} {lx : List (List UInt8)}
theorem run_append_nothing' (base c : Nat) (t ty e : TypeId) (i : TypeInfo) (size : Nat) (ht : Tryz.prog.underlying t = some (.slice e)) (hi : Tryz.prog.info? e = some i)
    (v : Value) (n : Nat) (xs : List Value) (hown : w.ownsRow base e size v n xs) :
    (Builtin.append_ #[t, t] ty #[v, .slice none 0 c]).run Tryz.prog w = .ok v w := by
  rcases hown.2 with ⟨rfl, rfl⟩ | ⟨g, cap, cur, rfl, _, _, hnc, _⟩
  · simp [Builtin.append_, run_underlying ht, sizeOf, typeInfo, hi, Builtin.lenOf, Builtin.firstCells]
  · simp [Builtin.append_, run_underlying ht, sizeOf, typeInfo, hi, Builtin.lenOf, Builtin.firstCells, hnc, storeCells]
theorem run_append_sn (t ty : TypeId) (ht : Tryz.prog.underlying t = some (.slice 9)) (h : w.ownsRow B 9 1 v 0 []) (k : Sn w x lx) (hlen : lx.length ≤ 1000000) (hB : B ≤ w.heap.size) :
    ∃ v' w', (Builtin.append_ #[t, t] ty #[v, x]).run Tryz.prog w = .ok v' w' ∧ w'.ownsRow B 9 1 v' lx.length (svs lx) ∧ w.grownBy w' v.ownBlock := by
  obtain ⟨i0, hi, hz0, hz1, hz2⟩ := info_parts' Tryz.infoStr
  obtain ⟨A, c, rfl, hl, b, o, h1, h2⟩ := k
  cases A with
  | none =>
    have : lx = [] := List.eq_nil_of_length_eq_zero (by
      rcases Nat.eq_zero_or_pos lx.length with h | h
      · exact h
      · have := (h1 h).1; simp at this)
    subst this
    exact ⟨v, w, run_append_nothing' B c t ty 9 i0 1 ht hi v _ _ h, h, World.grownBy.refl w _⟩
  | some a =>
    have hcells : ∀ j u, (svs lx)[j]? = some u → w.cell? (a.add j) = some u := by
      intro j u hu
      have hj : j < lx.length := by have := (List.getElem?_eq_some_iff.1 hu).1; simpa [svs] using this
      have ha := (h1 (by omega)).1
      simp only [Option.some.injEq] at ha
      subst ha
      unfold svs at hu
      rw [List.getElem?_map, List.getElem?_eq_getElem hj] at hu
      simp only [Option.map_some, Option.some.injEq] at hu
      subst hu
      have := h2 j _ (List.getElem?_eq_getElem hj)
      rwa [add_plain]
    obtain ⟨v', w', hr, h2, h3, _, h5⟩ := run_append_own_at (P := Tryz.prog) (ty := ty) w B t 9 i0 _ 1 16 ht hi hz0 hz1 hz2 rfl (by decide) v _ _ h a lx.length c (svs lx) (by simp [svs]) hcells
      (fun u hu => by obtain ⟨_, _, rfl⟩ := List.mem_map.1 hu; rfl) (by unfold maxLen; omega) (by omega) hB
    refine ⟨v', w', hr, ?_, h3⟩
    rw [Nat.zero_add, List.nil_append] at h2
    exact h2
theorem sn_own (h : w.ownsRow B 9 1 v lx.length (svs lx)) : Sn w v lx := by
  have hl := own_len (own_base h (Nat.zero_le _))
  have hlt := World.ownsRow.lt h
  obtain ⟨A, c, rfl, hr⟩ := own_read h
  by_cases h0 : 0 < lx.length
  · obtain ⟨g, rfl, _, hg, _⟩ := hr 0 (by omega)
    refine ⟨_, _, rfl, hl, g, 0, fun _ => ⟨rfl, hg⟩, fun j x hx => ?_⟩
    have hj := (List.getElem?_eq_some_iff.1 hx).1
    obtain ⟨g', hg', _, _, hc⟩ := hr j (by omega)
    cases hg'
    rw [Nat.zero_add, hc, svs, List.getElem?_map, hx]
    rfl
  · exact ⟨_, _, rfl, hl, 0, 0, fun h => absurd h h0, fun j x hx => by have := (List.getElem?_eq_some_iff.1 hx).1; omega⟩
theorem run_append_sn0 (g : Nat) (t ty : TypeId) (ht : Tryz.prog.underlying t = some (.slice 9)) (k : Sn w x lx) (hlen : lx.length ≤ 1000000) :
    ∃ v' w', (Builtin.append_ #[t, t] ty #[.slice (some ⟨g, 0, none⟩) 0 0, x]).run Tryz.prog w = .ok v' w' ∧ Sn w' v' lx ∧ Below w.heap.size w w' := by
  obtain ⟨i0, hi, hz0, hz1, hz2⟩ := info_parts' Tryz.infoStr
  obtain ⟨A, c, rfl, hl, b, o, h1, h2⟩ := k
  by_cases h0 : lx = []
  · subst h0
    refine ⟨.slice (some ⟨g, 0, none⟩) 0 0, w, ?_, ⟨_, _, rfl, by simp, 0, 0, fun h => absurd h (by simp), fun j x h => by simp at h⟩, Below.refl _ _⟩
    cases A <;> simp [Builtin.append_, run_underlying ht, sizeOf, typeInfo, hi, Builtin.lenOf, Builtin.firstCells, storeCells, loadCells, loadCellsFrom]
  · have hp : 0 < lx.length := List.length_pos_iff.2 h0
    obtain ⟨rfl, hb⟩ := h1 hp
    have hcells : ∀ j u, (svs lx)[j]? = some u → w.cell? ((⟨b, o, none⟩ : Addr).add j) = some u := by
      intro j u hu
      have hj : j < lx.length := by have := (List.getElem?_eq_some_iff.1 hu).1; simpa [svs] using this
      unfold svs at hu
      rw [List.getElem?_map, List.getElem?_eq_getElem hj] at hu
      simp only [Option.map_some, Option.some.injEq] at hu
      subst hu
      have := h2 j _ (List.getElem?_eq_getElem hj)
      rwa [add_plain]
    have hr := run_append_grow (P := Tryz.prog) w t ty 9 i0 _ ht hi hz0 ⟨g, 0, none⟩ 0 0 [] (by simp) (fun j v h => by simp at h) ⟨b, o, none⟩ lx.length c (svs lx) (by rw [hz1]; simp [svs]) hcells (by omega) (by omega) (growslice_fits (by omega) (by rw [hz2]; omega))
    refine ⟨_, _, hr, ?_, ?_⟩
    · rw [Nat.zero_add]
      refine ⟨_, _, rfl, hl, w.heap.size, 0, fun _ => ⟨rfl, by simp⟩, fun j y hy => ?_⟩
      have hj := (List.getElem?_eq_some_iff.1 hy).1
      have hs : (svs lx)[j]? = some (.string ⟨y.toArray⟩) := by rw [svs, List.getElem?_map, hy]; rfl
      have hjs : j < (svs lx).length := (List.getElem?_eq_some_iff.1 hs).1
      have hL := Lies.made w.drew 9 (([] : List Value).toArray ++ (svs lx).toArray ++ Builtin.zeroCells (Value.string ⟨#[]⟩).cells (grownCap w (0 + lx.length) 0 9 - (0 + lx.length)))
      have := hL.cell j
      rw [Nat.zero_add] at this ⊢
      refine this.trans ?_
      simp only [Array.toList_append, List.nil_append]
      rw [List.getElem?_append_left (by simpa using hjs)]
      exact hs
    · exact below_of_drew ((Below.refl _ w.drew).alloc (Nat.le_refl _) _)
theorem wp_append_sn0 {o : Oper} {a : Act} {K : Act → World → Prop} {Q : Exit → Act → World → Prop} (g : Nat) (s u : Operand) (t : TypeId)
    (ho : o.op = .call { callee := .builtin .append, args := #[s, u], argTypes := #[t, t] }) (ht : Tryz.prog.underlying t = some (.slice 9))
    (hs : a.eval s = .slice (some ⟨g, 0, none⟩) 0 0) (hu : a.eval u = x) (k : Sn w x lx) (hlen : lx.length ≤ 1000000)
    (hq : ∀ v' w', Sn w' v' lx → Below w.heap.size w w' → K (a.put o.dst v') w') : o.wp Tryz.prog a w K Q := by
  obtain ⟨v', w', hr, h2, h3⟩ := run_append_sn0 g t o.type ht k hlen
  unfold Oper.wp execOp
  simp only [ho, resolve, invoke, builtin, Sem.run_bind, Sem.run_pure, Result.andThen_ok, List.map_toArray, List.map_cons, List.map_nil, hs, hu, hr]
  exact hq v' w' h2 h3
theorem wpList_append_sn0 {ops : Array Oper} {rest : List Oper} {o : Oper} {a : Act} {Q : Exit → Act → World → Prop} (g : Nat) (hgd : o.guard = none) (s u : Operand) (t : TypeId)
    (ho : o.op = .call { callee := .builtin .append, args := #[s, u], argTypes := #[t, t] }) (ht : Tryz.prog.underlying t = some (.slice 9))
    (hs : a.eval s = .slice (some ⟨g, 0, none⟩) 0 0) (hu : a.eval u = x) (k : Sn w x lx) (hlen : lx.length ≤ 1000000)
    (hq : ∀ v' w', Sn w' v' lx → Below w.heap.size w w' → wpList Tryz.prog ops Q rest (a.put o.dst v') w') : wpList Tryz.prog ops Q (o :: rest) a w :=
  wpList_plain hgd fun _ hK => wp_append_sn0 g s u t ho ht hs hu k hlen fun v' w' h2 h3 => hK _ _ (hq v' w' h2 h3)
theorem step_append_sn0 {ops : Array Oper} {o : Oper} {a : Act} {K : Act → World → Prop} {Q : Exit → Act → World → Prop} {E : Prop} (g : Nat) (hgd : o.guard = none) (s u : Operand) (t : TypeId)
    (ho : o.op = .call { callee := .builtin .append, args := #[s, u], argTypes := #[t, t] }) (ht : Tryz.prog.underlying t = some (.slice 9))
    (hs : a.eval s = .slice (some ⟨g, 0, none⟩) 0 0) (hu : a.eval u = x) (k : Sn w x lx) (hlen : lx.length ≤ 1000000)
    (hq : ∀ v' w', Sn w' v' lx → Below w.heap.size w w' → K (a.put o.dst v') w') :
    if Region.wanted o (yielded ops a.tmps) = true then Oper.wp Tryz.prog o a w K Q else E := by
  rw [if_pos (by simp [Region.wanted, hgd])]
  exact wp_append_sn0 g s u t ho ht hs hu k hlen hq
end
end Go.Proofs.YtbomodendobnkaaGreat

/- MatchOrder: where nothing is asked. -/
namespace Go.Proofs.YtbomodendobnkaaGreat
open Go.ChangeShapes Go.WideShapes Go.ChangeAt Go.RowKit Go.Deep
open MM (Bl Bm Var)

section
variable (w : World) (x y : RM.Dm) (u v lv : Value) (lits : List (List UInt8)) (dots : List UInt8)
set_option maxRecDepth 100000 in
set_option maxHeartbeats 8000000 in
theorem order_off (hu : Cn w u x.is) (hv : Cn w v y.is) (hl : Sn w lv lits) (hls : ∀ x ∈ lits, x.length ≤ maxLen) (hdl : dots.length ≤ maxLen)
    (hoff : ¬ (few12 lits dots = true ∧ sm12 x = true ∧ sm12 y = true)) :
    Calls Tryz.prog 3 #[dtv x u, dtv y v, lv, .string ⟨dots.toArray⟩] w fun e w' => e = .returned (.bool true) ∧ Went w w' := by
  obtain ⟨A, cA, rfl⟩ := hu.read
  obtain ⟨B, cB, rfl⟩ := hv.read
  obtain ⟨LA, Lc, rfl⟩ := hl.read
  have hA := Lib.hid (fun w => awake12_any w)
  have hF := Lib.hid (fun (w' : World) (hb : Below w.heap.size w w') => few_any w' _ lits dots (hl.below hb) hls hdl)
  have hX := Lib.hid (fun (w' : World) (hb : Below w.heap.size w w') => sm12_any x w' _ (hu.below hb).in_)
  have hY := Lib.hid (fun (w' : World) (hb : Below w.heap.size w w') => sm12_any y w' _ (hv.below hb).in_)
  obtain ⟨bF, hbF⟩ : ∃ b, few12 lits dots = b := ⟨_, rfl⟩
  obtain ⟨bX, hbX⟩ : ∃ b, sm12 x = b := ⟨_, rfl⟩
  obtain ⟨bY, hbY⟩ : ∃ b, sm12 y = b := ⟨_, rfl⟩
  rw [hbF] at hF hoff
  rw [hbX] at hX hoff
  rw [hbY] at hY hoff
  clear hu hv hl hls hdl hbF hbX hbY
  unfold dtv at hX hY ⊢
  obtain ⟨LN, hLN⟩ : ∃ LN, lits.length = LN := ⟨_, rfl⟩
  rw [hLN] at hF ⊢
  clear hLN
  obtain ⟨g0, L1, L2⟩ := two_boxes w #[.int .i64 x.k, .int .i64 x.n, .string ⟨x.s.toArray⟩, .slice A x.is.len cA] #[.int .i64 y.k, .int .i64 y.n, .string ⟨y.s.toArray⟩, .slice B y.is.len cB] 24 24
  have st0 : True := trivial
  cases bF with
  | false =>
    go_enter Tryz.func3, Tryz.ntmps3
    go_wp2_with (first
      | (clear st0
         go_at_call 4
         refine (hA.out _).mono ?_
         rintro e w1 ⟨rfl, k1⟩
         have M1 := L1.below k1 (L1.lt)
         have M2 := L2.below k1 (L2.lt)
         have g1 := Lib.hid (g0.trans (k1.mono g0.size))
         clear k1
         have st1 : True := trivial)
      | (clear st1
         go_at_call 5
         refine (hF.out _ g1.out).mono ?_
         rintro e w2 ⟨rfl, k2⟩
         have N1 := M1.below k2 (M1.lt)
         have N2 := M2.below k2 (M2.lt)
         have x0 := N1.cell 0
         have x1 := N1.cell 1
         have x2 := N1.cell 2
         have x3 := N1.cell 3
         simp only [List.getElem?_cons_zero, List.getElem?_cons_succ] at x0 x1 x2 x3
         have g2 := Lib.hid (g1.out.trans (k2.mono g1.out.size))
         clear k2
         have st2 : True := trivial)
      | (clear st2
         go_at_call 6
         refine (hX.out _ g2.out).mono ?_
         rintro e w3 ⟨rfl, k3⟩
         have O2 := N2.below k3 (N2.lt)
         have y0 := O2.cell 0
         have y1 := O2.cell 1
         have y2 := O2.cell 2
         have y3 := O2.cell 3
         simp only [List.getElem?_cons_zero, List.getElem?_cons_succ] at y0 y1 y2 y3
         have g3 := Lib.hid (g2.out.trans (k3.mono g2.out.size))
         clear k3
         have st3 : True := trivial)
      | (clear st3
         go_at_call 6
         refine (hY.out _ g3.out).mono ?_
         rintro e w4 ⟨rfl, k4⟩
         have g4 := Lib.hid (g3.out.trans (k4.mono g3.out.size))
         clear k4
         have st4 : True := trivial)
      | (clear st2
         go_at_call 4
         refine (hA.out _).mono ?_
         rintro e w9 ⟨rfl, k9⟩
         have g9 := Lib.hid (g2.out.trans (k9.mono g2.out.size))
         clear k9))
    go_ret
    exact ⟨rfl, g9.out⟩
  | true =>
    cases bX with
    | false =>
      go_enter Tryz.func3, Tryz.ntmps3
      go_wp2_with (first
        | (clear st0
           go_at_call 4
           refine (hA.out _).mono ?_
           rintro e w1 ⟨rfl, k1⟩
           have M1 := L1.below k1 (L1.lt)
           have M2 := L2.below k1 (L2.lt)
           have g1 := Lib.hid (g0.trans (k1.mono g0.size))
           clear k1
           have st1 : True := trivial)
        | (clear st1
           go_at_call 5
           refine (hF.out _ g1.out).mono ?_
           rintro e w2 ⟨rfl, k2⟩
           have N1 := M1.below k2 (M1.lt)
           have N2 := M2.below k2 (M2.lt)
           have x0 := N1.cell 0
           have x1 := N1.cell 1
           have x2 := N1.cell 2
           have x3 := N1.cell 3
           simp only [List.getElem?_cons_zero, List.getElem?_cons_succ] at x0 x1 x2 x3
           have g2 := Lib.hid (g1.out.trans (k2.mono g1.out.size))
           clear k2
           have st2 : True := trivial)
        | (clear st2
           go_at_call 6
           refine (hX.out _ g2.out).mono ?_
           rintro e w3 ⟨rfl, k3⟩
           have O2 := N2.below k3 (N2.lt)
           have y0 := O2.cell 0
           have y1 := O2.cell 1
           have y2 := O2.cell 2
           have y3 := O2.cell 3
           simp only [List.getElem?_cons_zero, List.getElem?_cons_succ] at y0 y1 y2 y3
           have g3 := Lib.hid (g2.out.trans (k3.mono g2.out.size))
           clear k3
           have st3 : True := trivial)
        | (clear st3
           go_at_call 6
           refine (hY.out _ g3.out).mono ?_
           rintro e w4 ⟨rfl, k4⟩
           have g4 := Lib.hid (g3.out.trans (k4.mono g3.out.size))
           clear k4
           have st4 : True := trivial)
        | (clear st3
           go_at_call 4
           refine (hA.out _).mono ?_
           rintro e w9 ⟨rfl, k9⟩
           have g9 := Lib.hid (g3.out.trans (k9.mono g3.out.size))
           clear k9))
      go_ret
      exact ⟨rfl, g9.out⟩
    | true =>
      cases bY with
      | false =>
        go_enter Tryz.func3, Tryz.ntmps3
        go_wp2_with (first
          | (clear st0
             go_at_call 4
             refine (hA.out _).mono ?_
             rintro e w1 ⟨rfl, k1⟩
             have M1 := L1.below k1 (L1.lt)
             have M2 := L2.below k1 (L2.lt)
             have g1 := Lib.hid (g0.trans (k1.mono g0.size))
             clear k1
             have st1 : True := trivial)
          | (clear st1
             go_at_call 5
             refine (hF.out _ g1.out).mono ?_
             rintro e w2 ⟨rfl, k2⟩
             have N1 := M1.below k2 (M1.lt)
             have N2 := M2.below k2 (M2.lt)
             have x0 := N1.cell 0
             have x1 := N1.cell 1
             have x2 := N1.cell 2
             have x3 := N1.cell 3
             simp only [List.getElem?_cons_zero, List.getElem?_cons_succ] at x0 x1 x2 x3
             have g2 := Lib.hid (g1.out.trans (k2.mono g1.out.size))
             clear k2
             have st2 : True := trivial)
          | (clear st2
             go_at_call 6
             refine (hX.out _ g2.out).mono ?_
             rintro e w3 ⟨rfl, k3⟩
             have O2 := N2.below k3 (N2.lt)
             have y0 := O2.cell 0
             have y1 := O2.cell 1
             have y2 := O2.cell 2
             have y3 := O2.cell 3
             simp only [List.getElem?_cons_zero, List.getElem?_cons_succ] at y0 y1 y2 y3
             have g3 := Lib.hid (g2.out.trans (k3.mono g2.out.size))
             clear k3
             have st3 : True := trivial)
          | (clear st3
             go_at_call 6
             refine (hY.out _ g3.out).mono ?_
             rintro e w4 ⟨rfl, k4⟩
             have g4 := Lib.hid (g3.out.trans (k4.mono g3.out.size))
             clear k4
             have st4 : True := trivial)
          | (clear st4
             go_at_call 4
             refine (hA.out _).mono ?_
             rintro e w9 ⟨rfl, k9⟩
             have g9 := Lib.hid (g4.out.trans (k9.mono g4.out.size))
             clear k9))
        go_ret
        exact ⟨rfl, g9.out⟩
      | true => exact absurd ⟨rfl, rfl, rfl⟩ hoff
end
end Go.Proofs.YtbomodendobnkaaGreat

/- MatchOrder: the mathematics; the literals' own copy. -/
namespace Go.Proofs.YtbomodendobnkaaGreat
open Go.ChangeShapes Go.WideShapes Go.ChangeAt Go.RowKit Go.Deep
open MM (Bl Bm Var)

theorem ord_math {n : MM.NM} {x y : RM.Dm} {l : Bl} (h : mres true n Q0 x y = some l) :
    ∃ vs, MM.pat n x = some vs ∧ l.len = vs.length ∧ vs.length ≤ 4001 ∧ ∀ (i : Nat) (v : Var), vs[i]? = some v → v.dp ≤ 64 ∧ ∃ b, l.at_ i = some b ∧ b.nm = v.nm ∧ b.dp = v.dp := by
  unfold mres at h
  cases hp : MM.pat n x with
  | none => rw [hp] at h; cases h
  | some vs =>
    rw [hp] at h
    simp only [Bool.true_and] at h
    split at h
    · rename_i hm
      simp only [Bool.and_eq_true] at hm
      have hf := pat_fits hp
      obtain ⟨l', e, h1, h2⟩ := MM.bnd_fine (MM.fine_any n Q0 64 x y vs hm.2 hf.1)
      rw [e] at h
      cases h
      refine ⟨vs, rfl, h1, by have := MM.vars_len n 64 x vs hf.1; omega, fun i v hv => ?_⟩
      obtain ⟨b, hb1, hb2, hb3⟩ := h2 i v hv
      exact ⟨MM.vars_dp _ _ _ _ hf.1 v (List.mem_of_getElem? hv), b, hb1, hb2, hb3⟩
    · cases h
theorem ord_nil (n : MM.NM) (x y : RM.Dm) : mres false n Q0 x y = none := by
  unfold mres
  cases MM.pat n x <;> rfl
theorem rep_size (k : Nat) : (⟨(Lib.repeatL [42] k).toArray⟩ : ByteArray).size = k := by
  show (Lib.repeatL [42] k).toArray.size = k
  rw [List.size_toArray, Lib.repeatL_length]
  simp
/-- Match without a table -/
theorem nmatch_any (w : World) (x y : RM.Dm) (u v lv : Value) (lits : List (List UInt8)) (dots : List UInt8)
    (hu : Cn w u x.is) (hv : Cn w v y.is) (hx : Db x) (hy : Db y) (hzx : SM.sz x.is ≤ 5000) (hzy : SM.sz y.is ≤ 5000) (hl : Sn w lv lits) (hll : lits.length ≤ 1000) (hls : ∀ x ∈ lits, x.length ≤ maxLen) (hdl : dots.length ≤ maxLen) :
    Calls Tryz.prog 7 #[.pointer none, .int .i64 0, dtv x u, .int .i64 0, dtv y v, lv, .string ⟨dots.toArray⟩] w fun e w' => e = .returned (.tuple #[.slice none 0 0, .bool false]) ∧ Went w w' := by
  have h := match_any w none 0 0 x y u v lv lits dots Q0 hu hv hx hy hzx hzy hl hll hls hdl (fun h => by cases h)
  rw [show mres (none : Option Nat).isSome (MM.nms lits dots) Q0 x y = none from ord_nil _ _ _] at h
  exact h.mono fun e w' h => h.none_
end Go.Proofs.YtbomodendobnkaaGreat
