/- Package code: the look at all of it, Stacks. -/
import Derived.Test.YthfelkcomhflnaaDoorQ17
import Derived.Test.YthfelkcomhflnaaDoorQ28
import Derived.Deep.LoopGhost
import Derived.Laws.OwnMore
namespace Go.Proofs.YthfelkcomhflnaaDoor
open Go.ChangeShapes Go.WideShapes Go.ChangeAt Go.RowKit Go.Deep
open CD (Ins)

/-- what comes of the whole look -/
def WellN (l : List Ins) (w : World) (B p b : Nat) (cv : Value) (e : Ending) (w' : World) : Prop :=
  Turns (fun k => k = p ∨ k = b) w w' ∧ ((e = .returned (.bool false) ∧ ¬ CD.Well l) ∨ (e = .returned (.bool true) ∧ ∃ S' qv', WSt w' 49 B (fun _ => False) p b cv [] S' qv' [] ∧ CD.Fin l S'))
theorem WellN.bool {l : List Ins} {w w' : World} {B p b : Nat} {cv : Value} {e : Ending} (h : WellN l w B p b cv e w') : ∃ r : Bool, e = .returned (.bool r) := by
  rcases h.2 with ⟨h, -⟩ | ⟨h, -⟩
  · exact ⟨_, h⟩
  · exact ⟨_, h⟩
theorem turns_two {w w1 w2 : World} {p b : Nat} {qv : Value} (h : Turns (fun k => k = p ∨ k = b) w w1) (hq : ∀ g, qv.ownBlock = some g → w.heap.size ≤ g) (k : Turns (fun k => k = p ∨ k = b ∨ qv.ownBlock = some k) w1 w2) : Turns (fun k => k = p ∨ k = b) w w2 :=
  h.then k (fun i hi hh => by
    rcases hh with hh | hh | hh
    · exact .inl hh
    · exact .inr hh
    · have := hq i hh; omega)
theorem own_two {w w1 : World} {qv qv' : Value} (hs : w.heap.size ≤ w1.heap.size) (hq : ∀ g, qv.ownBlock = some g → w.heap.size ≤ g) (ho : qv'.ownBlock = qv.ownBlock ∨ ∃ g, qv'.ownBlock = some g ∧ w1.heap.size ≤ g) : ∀ g, qv'.ownBlock = some g → w.heap.size ≤ g := by
  intro g hg
  rcases ho with ho | ⟨g', ho, h1⟩
  · rw [ho] at hg; exact hq g hg
  · rw [ho] at hg; injection hg with hg; omega
set_option maxRecDepth 100000 in
set_option maxHeartbeats 8000000 in
theorem goesWell_any (l : List Ins) (w0 w : World) (p b : Nat) (A : Option Addr) (c : Nat)
    (hW : WSt w 49 w0.heap.size (fun _ => False) p b (.slice A l.length c) [] (List.replicate l.length []) (.slice none 0 0) []) (hI : IIn w0 (.slice A l.length c) l) (hb : Below w0.heap.size w0 w) (hr : CD.rgt l = true) :
    Calls Tryd.prog 18 #[.pointer (some ⟨p, 0, none⟩)] w (WellN l w w0.heap.size p b (.slice A l.length c)) := by
  have hlen := CD.rgt_len hr
  have he0 : CD.empties (List.replicate l.length ([] : List Int)) ≤ 8000 := by
    have := CD.empties_le (List.replicate l.length ([] : List Int))
    rw [List.length_replicate] at this
    omega
  have hC := Lib.hid (begin_any l w w0.heap.size p b A c (List.replicate l.length []) (.slice none 0 0) [] 0 [] hW CD.Amid.start (by omega) hlen.2 (by unfold lookM; simp; omega))
  have hlo := hW.lo
  have hI' := Lib.hid hI
  have hr' := Lib.hid hr
  have hb' := Lib.hid hb
  clear hW hI hr hb
  unfold WellN
  go_enter Tryd.func18, Tryd.ntmps18
  go_upto_if 7 with (
    go_at_call 30
    refine hC.out.mono ?_
    intro e w3 h3
    obtain ⟨r, rfl⟩ := h3.bool)
  have hq0 : ∀ g, (Value.slice none 0 0).ownBlock = some g → w.heap.size ≤ g := fun g hg => by simp [Value.ownBlock] at hg
  have hT3 := turns_two (Turns.refl (fun k => k = p ∨ k = b) w) hq0 h3.1
  cases r
  · have hno := Lib.hid (show ¬ CD.Well l by
      rcases h3.2 with ⟨-, h⟩ | ⟨h, -⟩
      · exact h
      · cases h)
    go_wp2_with fail
    go_ret
    exact ⟨hT3, .inl ⟨rfl, hno.out⟩⟩
  · obtain ⟨T3, S1, todo1, qv1, hW1, hA1, hm1, ho1⟩ := h3.get rfl
    have hm2 : lookM S1 todo1 ≤ 20000 := by unfold lookM at hm1 ⊢; simp at hm1; omega
    have hq1 := own_two (Nat.le_refl _) hq0 ho1
    clear h3 T3 ho1 hm1 hC
    go_wp2_with fail
    go_loopg [3, 4] 20000 (fun k s3 s4 wr => ∃ S todo qv, lookM S todo ≤ k ∧ k ≤ 20000 ∧ Hid (WSt wr 49 w0.heap.size (fun _ => False) p b (.slice A l.length c) [] S qv todo) ∧ Hid (CD.Amid l S todo []) ∧ Hid (Turns (fun k => k = p ∨ k = b) w wr) ∧ Hid (∀ g, qv.ownBlock = some g → w.heap.size ≤ g))
    case atStart => exact ⟨S1, todo1, qv1, hm2, Nat.le_refl _, Lib.hid hW1, Lib.hid hA1, Lib.hid hT3, Lib.hid hq1⟩
    case round =>
      clear hW1 hA1 hT3 hq1 hm2
      obtain ⟨S, todo, qv, hk, hk2, hWr, hAr, hTr, hqr⟩ := hrel
      have hp2 := hWr.out.st.cell 2
      have hf2 := hWr.out.st.free 2
      simp only [List.cons_append, List.nil_append, List.getElem?_cons_succ, List.getElem?_cons_zero] at hp2
      obtain ⟨qA, qc, rfl⟩ := hWr.out.q.read
      rw [nats_len] at hp2
      by_cases h0 : todo = []
      · subst h0
        simp only [List.length_nil] at hp2
        go_wp2_with fail
        go_ret
        exact ⟨hTr.out, .inr ⟨rfl, S, _, hWr.out, hAr.out.fin⟩⟩
      · obtain ⟨t1, q, rfl⟩ : ∃ t1 q, todo = t1 ++ [q] := ⟨todo.dropLast, todo.getLast h0, (List.dropLast_concat_getLast h0).symm⟩
        obtain ⟨m, hm⟩ : ∃ m, t1.length = m := ⟨_, rfl⟩
        have hmb : m ≤ 20000 := by unfold lookM at hk; rw [List.length_append] at hk; omega
        have hnl : (nats (t1 ++ [q])).length = m + 1 := by rw [nats_len, List.length_append, hm]; rfl
        have hll : (t1 ++ [q]).length = m + 1 := by rw [List.length_append, hm]; rfl
        rw [hll] at hp2
        have hx0 : (nats (t1 ++ [q]))[m]? = some (q : Int) := by rw [nats_snoc, List.getElem?_append_right (by rw [nats_len]; omega), nats_len, hm, Nat.sub_self]; rfl
        have hqo := hWr.out.q
        obtain ⟨g, o, rfl, hg0, hgl, hgc, hgx⟩ := hqo.cell hx0
        rw [hnl] at hgc
        have hmc : m ≤ qc := by omega
        have hcut := hqo.cut (m := m) (by rw [hnl]; omega) (by rw [hnl]; omega)
        have htk : (nats (t1 ++ [q])).take m = nats t1 := by rw [nats_snoc, List.take_append_of_le_length (by rw [nats_len]; omega), List.take_of_length_le (by rw [nats_len]; omega)]
        rw [htk] at hcut
        have hWp := hWr.out.put (w' := wr) (v' := .slice (some ⟨g, o, none⟩) m qc) (todo' := t1) (Turns.refl _ _) hcut (.inl rfl) (fun _ h => h.elim)
        obtain ⟨s, hs, sne⟩ := hAr.out.tod q (by simp)
        have hql : q < l.length := by rw [← hAr.out.len]; exact (List.getElem?_eq_some_iff.1 hs).1
        obtain ⟨x, hx⟩ : ∃ x, l[q]? = some x := ⟨_, List.getElem?_eq_getElem hql⟩
        have hTp : Turns (fun k => k = p ∨ k = b) w (wr.setCell ⟨p, 2, none⟩ (.slice (some ⟨g, o, none⟩) m qc)) := hTr.out.setCell (p := ⟨p, 2, none⟩) (fun _ => .inl rfl) _
        have hbp : Below w0.heap.size w0 (wr.setCell ⟨p, 2, none⟩ (.slice (some ⟨g, o, none⟩) m qc)) := hb'.out.trans (hTp.below hb'.out.size (fun i hi => by rcases hi with rfl | rfl; exact hlo.1; exact hlo.2))
        have hmm : lookM S t1 + 1 ≤ lookM S (t1 ++ [q]) := by unfold lookM; rw [List.length_append]; simp; omega
        have hC2 := Lib.hid (leave_any l _ w0.heap.size p b A c S (.slice (some ⟨g, o, none⟩) m qc) t1 (t1 ++ [q]) q s x hWp (hI'.out.below hbp) hr'.out hx hs hAr.out (by simp) (fun z hz => by simpa using hz) (fun z hz => by simp [hz]) (by omega))
        have hTp' := Lib.hid hTp
        have hq2 : Hid (∀ g', (Value.slice (some ⟨g, o, none⟩) m qc).ownBlock = some g' → w.heap.size ≤ g') := Lib.hid (fun g' hg' => hqr.out g' hg')
        clear hcut hWp hs sne hx hTp hbp hqo htk hx0 hnl hll hm hb' hI' hWr hAr hTr hqr
        go_upto_if 39 with (
          go_at_call 31
          refine hC2.out.mono ?_
          intro e w5 h5
          obtain ⟨r, rfl⟩ := h5.bool)
        have hT5 := turns_two hTp'.out hq2.out h5.1
        cases r
        · have hno := Lib.hid (show ¬ CD.Well l by
            rcases h5.2 with ⟨-, h⟩ | ⟨h, -⟩
            · exact h
            · cases h)
          go_wp2_with fail
          go_ret
          exact ⟨hT5, .inl ⟨rfl, hno.out⟩⟩
        · obtain ⟨T5, S5, todo5, qv5, hW5, hA5, hm5, ho5⟩ := h5.get rfl
          have hq5 := own_two (Turns.size hTp'.out) hq2.out ho5
          clear h5 T5 ho5 hC2
          go_wp2_with fail
          go_roundg (gk - 1)
          case measure => omega
          case rel => exact ⟨S5, todo5, qv5, by omega, by omega, Lib.hid hW5, Lib.hid hA5, Lib.hid hT5, Lib.hid hq5⟩
end Go.Proofs.YthfelkcomhflnaaDoor

/- Package code: Stacks. -/
namespace Go.Proofs.YthfelkcomhflnaaDoor
open Go.ChangeShapes Go.WideShapes Go.ChangeAt Go.RowKit Go.Deep
open CD (Ins)

theorem Tryd.infoInts : (Tryd.prog.info? 36).map (fun i => (i.zero, i.size, i.bytes)) = some (some (.slice none 0 0), 1, 24) := by kernel_rfl
theorem made_run (L : Nat) (hL : L ≤ 8000) (w : World) : (Instr.makeSlice 25 (.int .i64 L) (.int .i64 L)).run Tryd.prog w = .ok (.slice (some ⟨w.heap.size, 0, none⟩) L L) (w.alloc (.cells (List.replicate L (Value.slice none 0 0)).toArray 36)) := by
  obtain ⟨i0, hi, hz0, hz1, hz2⟩ := info_parts Tryd.infoInts
  have := run_make (P := Tryd.prog) w 25 36 i0 _ Tryd.underlying25 hi hz0 .i64 .i64 L L (by omega) (Int.le_refl _) (by rw [hz2]; omega) (by omega)
  rw [hz1] at this
  have e : madeCells (Value.slice none 0 0).cells (L * 1) = (List.replicate L (Value.slice none 0 0)).toArray := by
    apply Array.ext'
    rw [Nat.mul_one]
    exact toList_madeCells_one _ _
  simp only [Int.toNat_natCast] at this
  rw [e] at this
  exact this
/-- S in memory: what is known of each place, in block b -/
def Stk (w : World) (b : Nat) (S : List (List Int)) : Prop := b < w.heap.size ∧ ∀ (i : Nat) (s : List Int), S[i]? = some s → ∃ v, w.cell? ⟨b, i, none⟩ = some v ∧ PIn w v s ∧ (s = [] → v = .slice none 0 0)
theorem Stk.below {w w' : World} {b : Nat} {S : List (List Int)} (h : Stk w b S) (k : Below w.heap.size w w') : Stk w' b S :=
  ⟨Nat.lt_of_lt_of_le h.1 k.size, fun i s hi => by
    obtain ⟨v, h1, h2, h3⟩ := h.2 i s hi
    exact ⟨v, (k.cell (p := ⟨b, i, none⟩) h.1).trans h1, h2.below k, h3⟩⟩
/-- what Stacks answers -/
def StacksN (l : List Ins) (w : World) (e : Ending) (w' : World) : Prop :=
  Below w.heap.size w w' ∧ ((e = .returned (.tuple #[.slice none 0 0, cer false]) ∧ ¬ (CD.rgt l = true ∧ CD.Well l)) ∨
    (∃ S b, e = .returned (.tuple #[.slice (some ⟨b, 0, none⟩) l.length l.length, .nilIface]) ∧ CD.rgt l = true ∧ CD.Fin l S ∧ w.heap.size ≤ b ∧ Stk w' b S))
theorem wst_start (w2 : World) (T : TypeId) (A : Option Addr) (L c B : Nat) (ex : List Value) (hB : B ≤ w2.heap.size) :
    WSt ((w2.alloc (.cells (List.replicate L (Value.slice none 0 0)).toArray 36)).alloc (.cells (([Value.slice A L c, Value.slice (some ⟨w2.heap.size, 0, none⟩) L L, Value.slice none 0 0] ++ ex).toArray) T)) T B (fun _ => False) (w2.heap.size + 1) w2.heap.size (.slice A L c) ex (List.replicate L []) (.slice none 0 0) [] := by
  have h1 := Lies.made (w2.alloc (.cells (List.replicate L (Value.slice none 0 0)).toArray 36)) T (([Value.slice A L c, Value.slice (some ⟨w2.heap.size, 0, none⟩) L L, Value.slice none 0 0] ++ ex).toArray)
  rw [show (w2.alloc (.cells (List.replicate L (Value.slice none 0 0)).toArray 36)).heap.size = w2.heap.size + 1 by simp] at h1
  have h2 := (Lies.made w2 36 (List.replicate L (Value.slice none 0 0)).toArray).alloc (.cells (([Value.slice A L c, Value.slice (some ⟨w2.heap.size, 0, none⟩) L L, Value.slice none 0 0] ++ ex).toArray) T)
  refine ⟨by rw [List.length_replicate]; exact h1, ⟨List.replicate L (.slice none 0 0), h2, by simp, fun i s hi => ?_⟩, QOwn.none_ _ _, fun g hg => by simp [Value.ownBlock] at hg, by omega, ⟨by omega, hB⟩, ⟨fun h => h, fun h => h⟩⟩
  rw [List.getElem?_replicate] at hi ⊢
  split at hi
  · rename_i hlt
    injection hi with hi
    subst hi
    rw [if_pos hlt]
    exact ⟨_, rfl, Own.none_ _ _, fun _ => rfl, fun g hg => by simp [Value.ownBlock] at hg⟩
  · cases hi
set_option maxRecDepth 100000 in
set_option maxHeartbeats 8000000 in
theorem stacks_any (l : List Ins) (w : World) (v : Value) (h : IIn w v l) : Calls Tryd.prog 8 #[v] w (StacksN l w) := by
  have hC := Lib.hid (check16_any l w v h)
  obtain ⟨A, c, rfl⟩ := h.read
  have h' := Lib.hid h
  clear h
  obtain ⟨rb, hrb⟩ : ∃ rb, CD.rgt l = rb := ⟨_, rfl⟩
  rw [hrb] at hC
  have hrb' := Lib.hid hrb
  clear hrb
  unfold StacksN
  cases rb
  · unfold cer at hC
    go_enter Tryd.func8, Tryd.ntmps8
    go_wp2_with (
      go_at_call 15
      refine hC.out.mono ?_
      rintro e w2 ⟨rfl, hb2⟩)
    go_ret2
    exact ⟨hb2, .inl ⟨rfl, fun e => by rw [hrb'.out] at e; cases e.1⟩⟩
  · unfold cer at hC
    have hlen := CD.rgt_len hrb'.out
    obtain ⟨L, hL⟩ : ∃ L, l.length = L := ⟨_, rfl⟩
    have hL' := Lib.hid hL
    rw [hL] at hlen hC ⊢
    clear hL
    have hmk := fun w => made_run L hlen.2 w
    go_enter Tryd.func8, Tryd.ntmps8
    go_upto_if 17 with (first
      | (go_at_call 15
         refine hC.out.mono ?_
         rintro e w2 ⟨rfl, hb2⟩
         have hWs := wst_start w2 49 A L c w.heap.size [] hb2.size
         have hb4 : Below w.heap.size w ((w2.alloc (.cells (List.replicate L (Value.slice none 0 0)).toArray 36)).alloc (.cells #[.slice A L c, .slice (some ⟨w2.heap.size, 0, none⟩) L L, .slice none 0 0] 49)) := (Below.alloc hb2 hb2.size _).alloc (by have := hb2.size; simp; omega) _
         have hG := Lib.hid (by
           have h := goesWell_any l w ((w2.alloc (.cells (List.replicate L (Value.slice none 0 0)).toArray 36)).alloc (.cells #[.slice A L c, .slice (some ⟨w2.heap.size, 0, none⟩) L L, .slice none 0 0] 49)) (w2.heap.size + 1) w2.heap.size A c (by rw [hL'.out]; exact hWs) h'.out hb4 hrb'.out
           rw [hL'.out] at h
           exact h)
         have hb2' := Lib.hid hb2
         have hb4' := Lib.hid hb4
         clear hb2 hb4 hWs)
      | (go_at_call 18
         refine hG.out.mono ?_
         intro e w5 h5
         obtain ⟨r, rfl⟩ := h5.bool))
    have hs2 := Below.size hb2'.out
    have hb5 : Below w.heap.size w w5 := hb4'.out.trans (h5.1.below (Below.size hb4'.out) (fun i hi => by rcases hi with rfl | rfl <;> omega))
    obtain ⟨T5, ⟨er, hno⟩ | ⟨er, S', qv', hW5, hF5⟩⟩ := h5
    · injection er with er
      injection er with er
      subst er
      have hno' := Lib.hid hno
      clear hno T5
      go_wp2_with fail
      go_ret2
      exact ⟨hb5, .inl ⟨rfl, fun h => hno'.out h.2⟩⟩
    · injection er with er
      injection er with er
      subst er
      have hSl := hF5.len
      rw [hL'.out] at hSl
      have k1 := hW5.st.cell 1
      rw [hSl] at k1
      simp only [List.cons_append, List.nil_append, List.getElem?_cons_succ, List.getElem?_cons_zero] at k1
      have hF5' := Lib.hid hF5
      have hW5' := Lib.hid hW5
      clear hF5 hW5 T5
      go_wp2_with fail
      go_ret2
      refine ⟨hb5, .inr ⟨S', w2.heap.size, rfl, hrb'.out, hF5'.out, hs2, ?_, fun i s hi => ?_⟩⟩
      · obtain ⟨vs, h1, -⟩ := hW5'.out.out
        exact h1.lt
      · obtain ⟨v, h1, h2, h3, -⟩ := hW5'.out.get hi
        exact ⟨v, h1, h2, h3⟩
end Go.Proofs.YthfelkcomhflnaaDoor
