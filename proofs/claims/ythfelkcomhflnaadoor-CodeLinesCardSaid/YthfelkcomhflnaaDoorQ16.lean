/- Package code: it comes to a place with a stack; a place where a procedure begins. -/
import Derived.Test.YthfelkcomhflnaaDoorQ13
import Derived.Test.YthfelkcomhflnaaDoorQ11
import Derived.Test.YthfelkcomhflnaaDoorQ14
import Derived.Test.YthfelkcomhflnaaDoorQ15
import Derived.Deep.RegionWith
import Derived.WalkSpells
namespace Go.Proofs.YthfelkcomhflnaaDoor
open Go.ChangeShapes Go.WideShapes Go.ChangeAt Go.RowKit Go.Deep
open CD (Ins)

theorem pin_raw {w : World} {A : Option Addr} {n c : Nat} {l : List Int} (h : PIn w (.slice A n c) l) : Raw w A n 1 (l.map (.int .i64)) := by
  obtain ⟨A', c', e, hl, b, o, h1, h2⟩ := h
  injection e with e1 e2 e3
  subst e1 e2
  refine ⟨by simp, fun hA => ?_, fun a ha j u hu => ?_, fun u hu => by obtain ⟨x, _, rfl⟩ := List.mem_map.1 hu; rfl⟩
  · rcases Nat.eq_zero_or_pos l.length with h | h
    · exact h
    · rw [(h1 h).1] at hA; cases hA
  · rw [List.getElem?_map] at hu
    cases hx : l[j]? with
    | none => rw [hx] at hu; cases hu
    | some x =>
      rw [hx] at hu
      injection hu with hu
      subst hu
      have hj := (List.getElem?_eq_some_iff.1 hx).1
      rw [(h1 (by omega)).1] at ha
      injection ha with ha
      subst ha
      have hadd : (⟨b, o, none⟩ : Addr).add j = ⟨b, o + j, none⟩ := by unfold Addr.add; split <;> simp_all
      rw [hadd]
      exact h2 j x hx
theorem clone_pin (l : List Int) (w : World) (v : Value) (h : PIn w v l) (hl : l.length ≤ 1000000) :
    Calls Tryd.prog 42 #[v] w fun e w' => ∃ v', e = .returned v' ∧ Own w' w.heap.size v' l ∧ Below w.heap.size w w' := by
  obtain ⟨A, c, rfl⟩ := h.read
  refine (cloneI A l.length c _ w (pin_raw h) hl).mono ?_
  rintro e w' ⟨v', rfl, ho, hb⟩
  exact ⟨v', rfl, ho, hb⟩
/-- how far the look still has to go -/
def lookM (S : List (List Int)) (todo : List Nat) : Nat := 2 * CD.empties S + todo.length
/-- what comes of coming to a place -/
def ComeN (l : List Ins) (w : World) (T : TypeId) (B : Nat) (N : Nat → Prop) (p b : Nat) (cv : Value) (S : List (List Int)) (qv : Value) (todo : List Nat) (K : List (Nat × List Int)) (e : Ending) (w' : World) : Prop :=
  Turns (fun k => k = p ∨ k = b ∨ qv.ownBlock = some k) w w' ∧
    ((e = .returned (.bool false) ∧ ¬ CD.Well l) ∨ (e = .returned (.bool true) ∧ ∃ S' todo' qv', WSt w' T B N p b cv [] S' qv' todo' ∧ CD.Amid l S' todo' K ∧ lookM S' todo' ≤ lookM S todo ∧ (qv'.ownBlock = qv.ownBlock ∨ ∃ g, qv'.ownBlock = some g ∧ w.heap.size ≤ g)))
theorem nats_snoc (l : List Nat) (n : Nat) : nats (l ++ [n]) = nats l ++ [(n : Int)] := by simp [nats]
theorem nats_len (l : List Nat) : (nats l).length = l.length := by simp [nats]
set_option maxRecDepth 100000 in
set_option maxHeartbeats 8000000 in
theorem come_any (l : List Ins) (w : World) (B : Nat) (N : Nat → Prop) (p b : Nat) (A : Option Addr) (c : Nat) (S : List (List Int)) (qv : Value) (todo : List Nat) (q : Nat) (s : List Int) (sv : Value) (K : List (Nat × List Int))
    (hW : WSt w 49 B N p b (.slice A l.length c) [] S qv todo) (hA : CD.Amid l S todo ((q, s) :: K)) (hs : PIn w sv s) (hq : q ≤ l.length) (hl : l.length ≤ 8000) (hm : lookM S todo ≤ 20000) (hN : ∀ g, N g → g < w.heap.size) :
    Calls Tryd.prog 41 #[.pointer (some ⟨p, 0, none⟩), .int .i64 q, sv] w (ComeN l w 49 B N p b (.slice A l.length c) S qv todo K) := by
  have sne := (hA.ways q s (by simp)).ne
  have hSl := hA.len
  have hsl := hs.len
  obtain ⟨SA, sc, rfl⟩ := hs.read
  obtain ⟨M, hM⟩ : ∃ M, s.length = M + 1 := ⟨s.length - 1, by cases s with | nil => exact absurd rfl sne | cons => simp⟩
  rw [hM] at hs hsl ⊢
  obtain ⟨y, hy⟩ : ∃ y, s[M]? = some y := ⟨_, List.getElem?_eq_getElem (by omega)⟩
  obtain ⟨sb, so, rfl, hsb, y0⟩ := hs.cell hy
  obtain ⟨L, hL⟩ : ∃ L, l.length = L := ⟨_, rfl⟩
  rw [hL] at hW hq hl hSl ⊢
  have c0 := hW.st.cell 0
  have c1 := hW.st.cell 1
  have c2 := hW.st.cell 2
  have f2 := hW.st.free 2
  have hpl := hW.st.lt
  rw [hSl] at c1
  simp only [List.cons_append, List.nil_append, List.getElem?_cons_succ, List.getElem?_cons_zero] at c0 c1 c2
  have hfine : ∀ n, CD.fine n q s ↔ q < n ∧ M + 1 ≤ 200 ∧ y ≤ 29 := fun n => by
    unfold CD.fine
    rw [hM, Nat.add_sub_cancel, List.getD_eq_getElem?_getD, hy]; rfl
  have hW' := Lib.hid hW
  have hA' := Lib.hid hA
  have hs' := Lib.hid hs
  have hL' := Lib.hid hL
  have hM' := Lib.hid hM
  have hSl' := Lib.hid hSl
  have hm' := Lib.hid hm
  have hN' := Lib.hid hN
  have hf' := Lib.hid hfine
  clear hW hA hs hy hL hM hSl hm hfine sne hN
  unfold ComeN
  by_cases h1 : q = L
  · subst h1
    have hno : ¬ CD.Well l := hA'.out.bad_fine (q := q) (t := s) (by simp) (fun h => by rw [hf'.out, hL'.out] at h; omega)
    have hno' := Lib.hid hno
    clear hno
    go_enter Tryd.func41, Tryd.ntmps41
    go_wp2_with fail
    go_ret
    exact ⟨Turns.refl _ _, .inl ⟨rfl, hno'.out⟩⟩
  have e1 : ((q : Int) == (L : Int)) = false := by simp; omega
  by_cases h2 : 200 < M + 1
  · have hno : ¬ CD.Well l := hA'.out.bad_fine (q := q) (t := s) (by simp) (fun h => by rw [hf'.out] at h; omega)
    have hno' := Lib.hid hno
    clear hno
    go_enter Tryd.func41, Tryd.ntmps41
    go_wp2_with fail
    go_ret
    exact ⟨Turns.refl _ _, .inl ⟨rfl, hno'.out⟩⟩
  by_cases h3 : 29 < y
  · have hno : ¬ CD.Well l := hA'.out.bad_fine (q := q) (t := s) (by simp) (fun h => by rw [hf'.out] at h; omega)
    have hno' := Lib.hid hno
    clear hno
    go_enter Tryd.func41, Tryd.ntmps41
    go_wp2_with fail
    go_ret
    exact ⟨Turns.refl _ _, .inl ⟨rfl, hno'.out⟩⟩
  have hqL : q < L := by omega
  obtain ⟨t, ht⟩ : ∃ t, S[q]? = some t := ⟨_, List.getElem?_eq_getElem (by rw [hSl'.out]; exact hqL)⟩
  have htl : t.length ≤ 1000000 := by
    by_cases h : t = []
    · rw [h]; simp
    · have := (hA'.out.come q t ht h).2.2.1
      omega
  obtain ⟨v, d0, hv, hvn, hvs⟩ := hW'.out.get ht
  have ht' := Lib.hid ht
  clear ht
  by_cases h4 : t = []
  · obtain rfl := hvn h4
    have hC := Lib.hid (fun (w' : World) (hb : Below w.heap.size w w') => clone_pin s w' (.slice (some ⟨sb, so, none⟩) (M + 1) sc) (by rw [← hM'.out] at hs' ⊢; exact hs'.out.below hb) (by rw [hM'.out]; omega))
    have hFine : CD.fine l.length q s := by rw [hf'.out, hL'.out]; omega
    have hFine' := Lib.hid hFine
    have h4' := Lib.hid h4
    have bf := hW'.out.out
    obtain ⟨vs, bL, bl, -⟩ := bf
    have fq := bL.free q
    have hbl := bL.lt
    have bL' := Lib.hid bL
    have hpb := hW'.out.ne
    have hbw := Below.refl w.heap.size w
    have hnn : ∀ (w : World), (binOp .neq 36 (.slice none 0 0) (.slice none 0 0)).run Tryd.prog w = .ok (.bool false) w := fun w => run_neq_slice_nil_any w _ _ none 0 0 0 0 Tryd.underlying36
    clear bL bl hFine h4 hvn hvs hv
    go_enter Tryd.func41, Tryd.ntmps41
    go_wp2_with fail
    have hbd : Below w.heap.size w w.drew := below_of_drew (w := w) (w' := w.drew) (Below.refl _ _)
    go_region_with (
      go_at_call 42
      refine (hC.out _ hbd).mono ?_
      rintro e w3 ⟨v3, rfl, ho, hb3⟩
      have hb4 : Below w.heap.size w w3 := below_of_drew hb3
      have ho4 : Own w3 w.heap.size v3 s := ho
      obtain ⟨A3, n3, c3, rfl⟩ : ∃ A n c, v3 = .slice A n c := by obtain ⟨A, c, e, -⟩ := ho.read; exact ⟨_, _, _, e⟩
      have hW3 := Lib.hid (hW'.out.below hb4)
      have k1 : w3.cell? ⟨p, 1, none⟩ = some (.slice (some ⟨b, 0, none⟩) L L) := (hb4.cell (p := ⟨p, 1, none⟩) hpl).trans c1
      have k2 : w3.cell? ⟨b, q, none⟩ = some (.slice none 0 0) := (hb4.cell (p := ⟨b, q, none⟩) hbl).trans d0
      have k3 : w3.frozen? ⟨b, q, none⟩ = false := (bL'.out.below hb4 hbl).free q
      have R3 := Lib.hid (And.intro ho4 hb4)
      clear hb3 ho hb4 ho4)
    all_goals
      obtain ⟨ho4, hb4⟩ := R3.out
      have hqS : q < S.length := by rw [hSl'.out]; exact hqL
      have hsne : s ≠ [] := fun e => by have := hM'.out; rw [e] at this; simp at this
      have hWb := hW3.out.set (i := q) (s := s) hqS hsne (ho4.base (B' := B) (Nat.le_trans hW3.out.lo.1 (Nat.le_of_lt hpl))) (fun g hg => by
        have h5 := (ho4.lt g hg).1
        refine ⟨by omega, by omega, fun e => ?_, fun e => ?_⟩
        · have := (hW'.out.q.lt g e).2
          omega
        · have := hN'.out g e
          omega)
      have T3 : Turns (fun k => k = p ∨ k = b ∨ qv.ownBlock = some k) w (w3.setCell ⟨b, q, none⟩ (.slice A3 n3 c3)) := (Turns.of_below hb4 _).setCell (p := ⟨b, q, none⟩) (fun _ => .inr (.inl rfl)) _
      have hs3 : w.heap.size ≤ (w3.setCell ⟨b, q, none⟩ (.slice A3 n3 c3)).heap.size := T3.size
      have hB3 : B ≤ (w3.setCell ⟨b, q, none⟩ (.slice A3 n3 c3)).heap.size := Nat.le_trans (Nat.le_trans hW3.out.lo.1 (Nat.le_of_lt hpl)) hs3
      have k2q : (w3.setCell ⟨b, q, none⟩ (.slice A3 n3 c3)).cell? ⟨p, 2, none⟩ = some qv := hWb.st.cell 2
      have k2f : (w3.setCell ⟨b, q, none⟩ (.slice A3 n3 c3)).frozen? ⟨p, 2, none⟩ = false := hWb.st.free 2
      generalize (w3.setCell ⟨b, q, none⟩ (.slice A3 n3 c3)) = w5 at hWb T3 hs3 hB3 k2q k2f ⊢
      have hWb' := Lib.hid hWb
      have T3' := Lib.hid T3
      have htl2 : todo.length ≤ 20000 := by have := hm'.out; unfold lookM at this; omega
      obtain ⟨qA, qn, qc, rfl⟩ : ∃ A n c, qv = .slice A n c := by obtain ⟨A, c, e⟩ := hWb.q.read; exact ⟨_, _, _, e⟩
      clear hWb T3 k1 k2 k3 c0 c1 c2 f2 d0 fq y0
      go_wp2_with (
        at_builtin
        refine wpList_append_q (v := .slice qA qn qc) (l := nats todo) (B := B) (gx := w5.heap.size) (y := (q : Int)) rfl _ _ 36 rfl Tryd.underlying36 rfl rfl (hWb'.out.q.turns ((Turns.refl (fun _ => False) w5).alloc _) (fun _ _ h => h)) (by simp) (by rw [nats_len]; omega) (by simp; omega) ?_
        intro v6 w6 hq6 hT6 ho6
        obtain ⟨A6, n6, c6, rfl⟩ : ∃ A n c, v6 = .slice A n c := by obtain ⟨A, c, e⟩ := hq6.read; exact ⟨_, _, _, e⟩
        have hq6' := Lib.hid hq6
        have hT6' := Lib.hid hT6
        have ho6' := Lib.hid ho6
        have hWa := hWb'.out.below ((Below.refl w5.heap.size w5).alloc (Nat.le_refl _) (.cells #[.int .i64 (q : Int)] 3))
        have hLp := hWa.st.turns hT6'.out (fun e => (hWa.qa p e).1 rfl)
        have hp6 : w6.cell? ⟨p, 2, none⟩ = some (.slice qA qn qc) := hLp.cell 2
        have hf6 : w6.frozen? ⟨p, 2, none⟩ = false := hLp.free 2
        have hWa' := Lib.hid hWa
        clear hq6 hT6 ho6 hLp hWa)
      go_ret
      have hsz : w5.heap.size ≤ (w5.alloc (.cells #[.int .i64 (q : Int)] 3)).heap.size := by simp
      have T6 : Turns (fun k => k = p ∨ k = b ∨ (Value.slice qA qn qc).ownBlock = some k) w w6 := T3'.out.then (((Turns.refl (fun k => (Value.slice qA qn qc).ownBlock = some k) w5).alloc _).trans hT6'.out) (fun _ _ h => .inr (.inr h))
      have ho7 : (Value.slice A6 n6 c6).ownBlock = (Value.slice qA qn qc).ownBlock ∨ ∃ g, (Value.slice A6 n6 c6).ownBlock = some g ∧ (w5.alloc (.cells #[.int .i64 (q : Int)] 3)).heap.size ≤ g := by
        rcases ho6'.out with h | h
        · exact .inl h
        · exact .inr ⟨_, h, Nat.le_refl _⟩
      refine ⟨T6.setCell (p := ⟨p, 2, none⟩) (fun _ => .inl rfl) _, .inr ⟨rfl, S.set q s, todo ++ [q], .slice A6 n6 c6, hWa'.out.put hT6'.out (by rw [nats_snoc]; exact hq6'.out) ho7 (fun g e => by have := hN'.out g e; omega), hA'.out.first (by rw [ht'.out, h4'.out]) hFine'.out (fun x => by simp), ?_, ?_⟩⟩
      · have := CD.empties_set (S := S) (q := q) (t := s) (by rw [ht'.out, h4'.out]) hsne
        unfold lookM
        rw [List.length_append]
        simp only [List.length_cons, List.length_nil]
        omega
      · rcases ho7 with h | ⟨g, h, hg⟩
        · exact .inl h
        · exact .inr ⟨g, h, by omega⟩
  · obtain ⟨g, gc, rfl⟩ := hvs h4
    have hE := Lib.hid (equalInts_any t s w _ (.slice (some ⟨sb, so, none⟩) (M + 1) sc) hv (by rw [← hM'.out] at hs' ⊢; exact hs'.out))
    have h4' := Lib.hid h4
    have hnn : ∀ (w : World) (a : Addr) (n c : Nat), (binOp .neq 36 (.slice (some a) n c) (.slice none 0 0)).run Tryd.prog w = .ok (.bool true) w := fun w a n c => run_neq_slice_nil_any w _ _ (some a) n c 0 0 Tryd.underlying36
    clear h4 hvn hvs hv
    go_enter Tryd.func41, Tryd.ntmps41
    go_wp2_with (
      go_at_call 50
      refine hE.out.mono ?_
      rintro e w3 ⟨r, rfl, hr, hb3⟩)
    go_ret
    refine ⟨Turns.of_below hb3 _, ?_⟩
    cases r
    · exact .inl ⟨rfl, hA'.out.bad_other (q := q) (t := s) (by simp) ht'.out h4'.out (fun e => by have := hr.2 e; cases this)⟩
    · have e := hr.1 rfl
      subst e
      exact .inr ⟨rfl, S, todo, qv, hW'.out.below hb3, hA'.out.known ht'.out, Nat.le_refl _, .inl rfl⟩
end Go.Proofs.YthfelkcomhflnaaDoor
