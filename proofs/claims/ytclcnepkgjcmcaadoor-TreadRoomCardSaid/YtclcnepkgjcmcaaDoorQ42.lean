/- The laws' own world: made, where a cell is free, of two fields that are given (a weak thing). -/
import Derived.Test.YtclcnepkgjcmcaaDoorQ40
namespace Go.Proofs.YtclcnepkgjcmcaaDoor
open Go.RowKit

/-- the first i fields of the thing N are set -/
def setn (M : Md) (N : Nat) (vs : Nat → V) : Nat → Md
  | 0 => M
  | i + 1 => (setn M N vs i).setFld N i (vs i)
theorem setn_facts {M M1 : Md} {N : Nat} {vs : Nat → V} (hx : Ext M M1 N) : ∀ i, Ext M (setn M1 N vs i) N ∧ (setn M1 N vs i).form = M1.form ∧ (setn M1 N vs i).len = M1.len ∧ (setn M1 N vs i).cell = M1.cell ∧ (setn M1 N vs i).reg = M1.reg ∧ ∀ k, (setn M1 N vs i).fld N k = if k < i then vs k else M1.fld N k
  | 0 => ⟨hx, rfl, rfl, rfl, rfl, fun k => (if_neg (by omega)).symm⟩
  | i + 1 => by
    obtain ⟨h1, h2, h3, h4, h5, h6⟩ := setn_facts (vs := vs) hx i
    refine ⟨h1.setFld i (vs i), h2, h3, h4, h5, fun k => ?_⟩
    show (if N = N ∧ k = i then vs i else (setn M1 N vs i).fld N k) = _
    by_cases e : k = i
    · subst e
      rw [if_pos ⟨rfl, rfl⟩, if_pos (by omega)]
    · rw [if_neg (fun h => e h.2), h6 k]
      by_cases e2 : k < i
      · rw [if_pos e2, if_pos (by omega)]
      · rw [if_neg e2, if_neg (by omega)]
section
variable {w w' : World} {x q p b : Nat} {e : Int} {G : Geo} {M M1 : Md} {N B : Nat} {blk : Nat → Nat} {fv : Nat → Value} {al : Value} {bad full : Bool} {K K' : Gk}
theorem Wn.weaken (s : Wn w x q p b e G M M1 N B blk fv al bad full K) (h : ∀ H R A D, K H R A D → K' H R A D) : Wn w x q p b e G M M1 N B blk fv al bad full K' := by
  obtain ⟨H, R, A, D, h1, hs, hk, h2⟩ := s.heap
  exact ⟨s.cells, s.things, s.all, ⟨H, R, A, D, h1, hs, ⟨h _ _ _ _ hk.1, hk.2⟩, h2⟩, s.lq, s.lp, s.lb, s.lx, s.apart, s.high, s.sz⟩
/-- what lies from B on, but is none of what the world's facts speak of, may turn -/
theorem Wn.far (s : Wn w x q p b e G M M1 N B blk fv al bad full K) {X : Nat → Prop} (t : Turns X w w') (hX : ∀ k, X k → B ≤ k) (h1 : ∀ i, i < N → ¬ X (blk i)) (h2 : ∀ i, i < N → ∀ g, (fv i).ownBlock = some g → ¬ X g) (h3 : ∀ g, al.ownBlock = some g → ¬ X g) : Wn w' x q p b e G M M1 N B blk fv al bad full K := by
  obtain ⟨H, R, A, D, h, hs, hk⟩ := s.heap
  have := s.lq; have := s.lp; have := s.lb; have := s.lx; have := h.apart
  exact ⟨s.cells.turns t (fun h => by have := hX _ h; omega), s.things.turns t h1 h2, s.all.turns t h3, ⟨H, R, A, D, h.turns t (fun h => by have := hX _ h; omega) (fun h => by have := hX _ h; omega) (fun h => by have := hX _ h; omega) (fun h => by have := hX _ h; omega), hs, hk⟩, s.lq, s.lp, s.lb, s.lx, s.apart, s.high, Nat.le_trans s.sz t.size⟩
end

section
variable {w w' : World} {x q p b z j g n m c : Nat} {e : Int} {G : Geo} {M M1 : Md} {N B : Nat} {blk : Nat → Nat} {fv : Nat → Value} {al : Value} {bad full : Bool} {K K' : Gk} {f : Nat → V}
theorem Wn.word (s : Wn w x q p b e G M M1 N B blk fv al bad full K) {v : V} (hv : v.Has (fun t => t < N)) :
    Calls Tryd.prog 24 #[vg blk v] w fun r w' => r = .returned (.int .u64 (v.wd M.cell)) ∧ Wn w' x q p b e G M M1 N B blk fv al bad full K ∧ Turns (fun _ => False) w w' := by
  refine (word_any blk M.cell v w (fun i ev => by subst ev; exact ⟨_, _, s.things.here i hv⟩)).mono ?_
  rintro r w' ⟨rfl, ht⟩
  exact ⟨rfl, s.quiet ht, ht⟩
theorem OwnV.at_ (h : OwnV w B (.slice (some ⟨g, 0, none⟩) n c) blk f m) (hj : j < m) : w.cell? ⟨g, j * 2, none⟩ = some (vw (f j)) ∧ w.cell? ⟨g, j * 2 + 1, none⟩ = some (vp blk (f j)) := by
  obtain ⟨A, c', e, h⟩ := h.read
  obtain ⟨g', rfl, -, h1, h2⟩ := h j hj
  injection e with e3 e4 e5
  injection e3 with e3
  injection e3 with e3
  subst e3
  exact ⟨h1, h2⟩
theorem OwnV.free (h : OwnV w B (.slice (some ⟨g, 0, none⟩) n c) blk f m) (i : Nat) : w.frozen? ⟨g, i, none⟩ = false := by
  rcases h.2 with ⟨e, _⟩ | ⟨g', c', cur, e, hb, hh, -⟩
  · cases e
  · injection e with e1
    injection e1 with e1
    injection e1 with e1
    subst e1
    have : Lies w g 39 cur.toList := by
      unfold Lies
      rw [hh]
    exact this.free i
end

set_option maxHeartbeats 2000000 in
set_option maxRecDepth 100000 in
theorem Ws.made3 {w : World} {x q p b : Nat} {e e' : Int} {G : Geo} {M : Md} {N B : Nat} {blk : Nat → Nat} {fv : Nat → Value} {al : Value} {full : Bool} {K K' : Gk} (s : Ws w x q p b e G M N B blk fv al false full K) (hN : N ≤ 100000) (hxg : x ≠ 0) (r : Nat) (hr : r < 8) (vs : Nat → V) (hvo : ∀ j, j < 2 → (vs j).ok) (hvR : ∀ j, j < 2 → (vs j).Has (Reach M)) (hvN : ∀ j, j < 2 → (vs j).Has (fun t => t < N)) (gF cF : Nat) (hgB : B ≤ gF) (hgF : Lies w gF 39 (vcells blk vs 2)) (f : Int) (hf3 : f = 3) (n : Nat) (hn2 : n = 2) (c : Int) (hne : ∀ i, Reach M i → M.cell i ≠ c)
    (hA : Calls Tryd.prog 12 #[.pointer (some ⟨q, 0, none⟩), .int .i64 f, .int .i64 0, .int .i64 n] w fun r w' => r = .returned (.tuple #[.int .u64 (8 * c + 1), .nilIface]) ∧ Wn w' x q p b e' G M (M.add N f n c) N B blk fv al false full K' ∧ Turns (Own3 q p b) w w') :
    Calls Tryd.prog 21 #[.pointer (some ⟨x, 0, none⟩), .int .i64 r, .int .i64 f, .int .i64 n, .slice (some ⟨gF, 0, none⟩) 2 cF] w fun o w' => o = .returned (.tuple #[]) ∧ (∃ blk' fv' al', Ws w' x q p b e' G ((setn (M.add N f n c) N vs 2).setReg r (.t N)) (N + 1) B blk' fv' al' false full K'.quiet) ∧ Turns (DoT w x q p b B) w w' := by
  have hn : n ≤ 127 := by omega
  have hfb : (f == 2) = false := by simp; omega
  have hbf : blank f = 12 := if_neg (by omega)
  have HF := Lib.hid (And.intro hf3 hn2)
  clear hf3 hn2
  have hx := Ext.add M N f n c
  have m1 : (M.add N f n c).form N = f := if_pos rfl
  have m2 : (M.add N f n c).len N = n := if_pos rfl
  have m3 : (M.add N f n c).fld N = fun _ => .w (blank f) := by funext k; exact if_pos rfl
  have m4 : (M.add N f n c).cell N = c := if_pos rfl
  have AL := Lib.hid hA
  have p0 : w.cell? ⟨x, 0, none⟩ = some (.pointer (some ⟨q, 0, none⟩)) := s.cells.cell 0
  have RE := Lib.hid (fun w1 (s1 : Wn w1 x q p b e' G M (M.add N f n c) N B blk fv al false full K') => s1.reached hN)
  have RG := Lib.hid (fun w1 g es c hb => run_range_map (P := Tryd.prog) w1 33 37 4 g es c Tryd.underlying33 hb)
  have hBs := s.sz
  have hNE := Lib.hid hne
  have HAL := Lib.hid (fun (k : Nat) (h : al.ownBlock = some k) (ks : List Nat) (pm : PMap w k ks) => s.all.not_map pm h)
  have hlx0 := s.lx
  clear hA hne
  generalize M.add N f n c = M1 at *
  have SR := Lib.hid (fun w9 bt fN al' (s9 : Ws w9 x q p b e' G (setn M1 N vs 2) (N + 1) B (upd blk N bt) (upd fv N fN) al' false full K'.quiet ∧ ∃ H R A D, Tr w9 q p b G H ∧ Safe e' G H R (setn M1 N vs 2) A D ∧ K'.quiet.low (N + 1) H R A D ∧ A N) => by
    obtain ⟨s9, H, R, A, D, h1, h2, h3, h4⟩ := s9
    have := s9.setRegA h1 h2 h3 hxg hr (v := .t N) trivial h4 (show N < N + 1 by omega)
    rw [vg_eq, show vp (upd blk N bt) (.t N) = Value.pointer (some ⟨bt, 0, none⟩) by show Value.pointer (some ⟨upd blk N bt N, 0, none⟩) = _; rw [upd_at], show vw (.t N) = Value.int .u64 0 from rfl] at this
    exact this)
  have gF3 : ¬ (gF = x ∨ Own3 q p b gF) := fun h => h.elim (fun h => by have := s.lx; omega) (s.not3 hgB)
  have hgl := hgF.lt
  clear s
  have HM := Lib.hid (And.intro hx (And.intro m1 (And.intro m2 (And.intro m3 m4))))
  clear hx m1 m2 m3 m4
  go_enter Tryd.func21, Tryd.ntmps21
  go_wp2_with (first
    | (go_at_call 12
       refine AL.out.mono ?_
       rintro o w1 ⟨rfl, s1, t1⟩)
    | (go_at_call 8
       refine (RE.out _ s1).mono ?_
       rintro o w2 ⟨g, is, rfl, pm, hg, hiff, hlow, s2, t2⟩
       have hkl : ∀ j, j < is.length → (is.map blk).getD j 0 = blk (is.getD j 0) := fun j hj => by simp [List.getD, hj]
       have hll : Hid ((is.map blk).length = is.length) := List.length_map _
       generalize is.map blk = ks at *
       have hrg := RG.out w2 g _ _ pm))
  have hm1 := pm.turns ((Turns.refl (fun _ => False) w2).alloc (.mapIter (some g) ks.length #[] ks.length)) (fun h => h)
  have hi1 := PIter.made w2 g ks.length
  have s3 := s2.quiet ((Turns.refl (fun _ => False) w2).alloc (.mapIter (some g) ks.length #[] ks.length))
  have t3 : Turns (fun k => k = x ∨ Own3 q p b k) w (w2.alloc (.mapIter (some g) ks.length #[] ks.length)) := (((t1.mono fun _ _ h => .inr h).then t2 (fun i _ h => h.elim)).alloc _)
  have hBr := Nat.le_trans s2.sz (Nat.le_refl _)
  have HH := Lib.hid (And.intro hiff (And.intro hlow (And.intro hkl hll)))
  have hgB2 : B ≤ g := Nat.le_trans s1.sz hg
  have hxB := s1.lx
  have hr9 : w.heap.size ≤ w2.heap.size := Nat.le_trans t1.size t2.size
  clear pm hrg s1 s2 t1 t2 hiff hlow hkl hll
  generalize hrr : w2.heap.size = r9 at *
  go_loopw [] (fun wr => ∃ sn : Array Nat, Wn wr x q p b e' G M M1 N B blk fv al false full K' ∧ PMap wr g ks ∧ PIter wr r9 g ks.length sn ∧ Turns (fun k => k = x ∨ Own3 q p b k) w wr) (fun wr => leftW wr r9 g)
  case atStart => exact ⟨_, s3, hm1, hi1, t3⟩
  case round =>
    clear s3 hm1 hi1 t3
    obtain ⟨sn, hs, hm, hi, ht⟩ := hrel
    rcases hi.next hm with ⟨-, hnx⟩ | ⟨j, hj, hsn, hsh, w4, hw4, hnx⟩
    · have HE := Lib.hid (And.intro hs ht)
      clear hs hm hi ht
      go_wp2_with fail
      have hb0 : Lies (wr.alloc (.cells #[.int .i64 f, .slice none 0 0, .int .u64 (8 * c + 1)] 64)) wr.heap.size 64 [.int .i64 f, .slice none 0 0, .int .u64 (8 * c + 1)] := Lies.made wr 64 #[.int .i64 f, .slice none 0 0, .int .u64 (8 * c + 1)]
      have tq0 := (Turns.refl (fun _ => False) wr).alloc (.cells #[.int .i64 f, .slice none 0 0, .int .u64 (8 * c + 1)] 64)
      generalize wr.alloc (.cells #[.int .i64 f, .slice none 0 0, .int .u64 (8 * c + 1)] 64) = w6 at *
      generalize hbt : wr.heap.size = bt at *
      go_loopw [72] (fun v72 wr5 => ∃ (i : Nat) (fN : Value), i ≤ n ∧ v72 = .int .i64 i ∧ Lies wr5 bt 64 [.int .i64 f, fN, .int .u64 (8 * c + 1)] ∧ OwnV wr5 bt fN blk (fun _ => .w (blank f)) i ∧ Turns (fun _ => False) wr wr5) (fun v _ => n - (intOf v).toNat)
      case atStart => exact ⟨0, .slice none 0 0, by omega, rfl, hb0, World.ownsRow_nil _ _ _ _, tq0⟩
      case round =>
        clear hb0 tq0
        obtain ⟨i, fN, hi, rfl, hb, hrow, htt⟩ := hrel
        by_cases hin : i < n
        · obtain ⟨A5, c5, rfl, -⟩ := hrow.read
          have VO := Lib.hid (fun w7 => void_any w7)
          have b1 : wr.cell? ⟨bt, 1, none⟩ = some (.slice A5 i c5) := hb.cell 1
          have fb1 := hb.free 1
          have hbl := hb.lt
          have HR := Lib.hid (And.intro hb (And.intro hrow htt))
          clear hb hrow htt
          go_wp2_with (go_at_call 14; refine (VO.out _).mono ?_; rintro o w8 ⟨rfl, rfl⟩)
          have hv7 : Lies (wr.alloc (.cells #[.int .u64 12, .pointer none] 39)) wr.heap.size 39 [.int .u64 12, .pointer none] := Lies.made wr 39 #[.int .u64 12, .pointer none]
          have tv := (Turns.refl (fun _ => False) wr).alloc (.cells #[.int .u64 12, .pointer none] 39)
          have hb7 := HR.out.1.turns tv (fun h => h)
          have hrow7 := HR.out.2.1.turns tv (fun _ _ h => h)
          have T7 := HR.out.2.2.then tv (fun i _ h => h)
          clear HR b1 fb1 hbl tv
          generalize wr.alloc (.cells #[.int .u64 12, .pointer none] 39) = w7 at *
          generalize wr.heap.size = wv at *
          have b1 : w7.cell? ⟨bt, 1, none⟩ = some (.slice A5 i c5) := hb7.cell 1
          have y0 : w7.cell? ⟨wv, 0, none⟩ = some (.int .u64 12) := hv7.cell 0
          have y1 : w7.cell? ⟨wv, 1, none⟩ = some (.pointer none) := hv7.cell 1
          have hbl := hb7.lt
          have R7 := Lib.hid (And.intro hb7 (And.intro hrow7 T7))
          clear hb7 hrow7 T7 hv7
          go_region_law
            ((first
              | (refine step_append_own (w := (w7.alloc (.cells #[.int .u64 12, .pointer none] 39)).drew) (v := .slice A5 i c5) (x := .slice (some ⟨w7.heap.size, 0, none⟩) 1 1) (B := bt) (B' := 0) (n := i) (xs := vcells blk (fun _ => .w (blank f)) i) (cs := [.int .u64 12, .pointer none]) (.agg #[.int .u64 0, .pointer none]) 16 Tryd.infoVal rfl (by decide) rfl _ _ 62 (by rfl) Tryd.underlying62 (by rfl) (by rfl) (own_turns R7.out.2.1 (((Turns.refl (fun _ => False) w7).alloc _).drew) (fun _ _ h => h)) (own_one (B := 0) w7 #[.int .u64 12, .pointer none] rfl (Nat.zero_le _)) (by intro u hu; simp at hu; rcases hu with rfl | rfl <;> rfl) (by omega) (by omega) (by simp; omega) ?_
                 intro v9 w9 hown9 hg9 hat9
                 have T9 : Turns (fun k => (Value.slice A5 i c5).ownBlock = some k) w7 w9 := ((Turns.refl (fun k => (Value.slice A5 i c5).ownBlock = some k) w7).alloc (.cells #[.int .u64 12, .pointer none] 39)).drew.then (Turns.appendedS hg9) (fun _ _ h => h)
                 have hb9 := R7.out.1.turns T9 (R7.out.2.1.apart R7.out.1 (by decide))
                 have T10 := R7.out.2.2.then T9 (fun k hk h => by have := (R7.out.2.1.lt k h).1; omega)
                 obtain ⟨A9, q9, rfl, -⟩ := own_read hown9
                 have c9 : w9.cell? ⟨bt, 1, none⟩ = some (.slice A5 i c5) := hb9.cell 1
                 have f9 := hb9.free 1
                 have R9 := Lib.hid (And.intro hb9 (And.intro hown9 T10))
                 clear hb9 T9 T10 hg9 hat9 hown9)))
          all_goals
            obtain ⟨hb9, hown9, T10⟩ := R9.out
            have hz9 := hb9.stored 1 (.slice A9 (i + 1) q9)
            have tz : Turns (fun k => k = bt) w9 (w9.setCell ⟨bt, 1, none⟩ (.slice A9 (i + 1) q9)) := (Turns.refl (fun k => k = bt) w9).setCell (p := ⟨bt, 1, none⟩) (fun _ => rfl) _
            have ho9 : OwnV w9 bt (.slice A9 (i + 1) q9) blk (fun _ => .w (blank f)) (i + 1) := by
              unfold OwnV
              rw [vcells, hbf]
              rw [hbf] at hown9
              exact hown9
            have ho10 := ho9.turns tz (fun k hk e => ho9.apart hb9 (by decide) (e ▸ hk))
            have T11 := T10.then tz (fun k hk e => by omega)
            have R11 := Lib.hid (And.intro hz9 (And.intro ho10 T11))
            clear hb9 hown9 T10 hz9 tz ho9 ho10 T11 R9 f9 c9 b1 y0 y1
            go_wp2_with fail
            go_roundw
            case rel => exact ⟨i + 1, _, by omega, by go_num, R11.out.1, R11.out.2.1, R11.out.2.2⟩
            case measure => simp [intOf]; omega
        · obtain rfl : i = n := by omega
          have hBt : B ≤ bt := hbt ▸ HE.out.1.sz
          have hlow : ∀ k, k < N → blk k < bt ∧ ∀ g, (fv k).ownBlock = some g → g < bt := fun k hk => ⟨hbt ▸ (HE.out.1.things.here k hk).lt, fun g hg => hbt ▸ ((HE.out.1.things.rows k hk).lt g hg).2⟩
          have hall : ∀ g, al.ownBlock = some g → g < bt := fun g hg => hbt ▸ (HE.out.1.all.lt g hg).2
          have hwb : w.heap.size ≤ bt := hbt ▸ HE.out.2.size
          have hF := (hgF.turns HE.out.2 gF3).turns htt (fun h => h)
          have T0 := HE.out.2.then htt (fun i _ h => h.elim)
          have s0 := (HE.out.1.quiet htt).weaken (K' := K'.quiet) (fun _ _ _ _ h => Gk.refl h)
          have WV := Lib.hid (fun j (hj : j < 2) w4 M4 K4 (h4 : Wn w4 x q p b e' G M M4 N B blk fv al false full K4) => h4.word (hvN j hj))
          have LW := Lib.hid hlow
          have LL := Lib.hid hall
          have hi2 := Lib.hid HF.out.2
          clear hall hlow htt
          go_wp2_with fail
          go_loopw [92] (fun v92 w10 => ∃ j : Nat, j ≤ 2 ∧ v92 = .int .i64 j ∧ Wn w10 x q p b e' G M (setn M1 N vs j) N B blk fv al false full K'.quiet ∧ Lies w10 bt 64 [.int .i64 f, fN, .int .u64 (8 * c + 1)] ∧ OwnV w10 bt fN blk (fun k => if k < j then vs k else .w (blank f)) i ∧ Lies w10 gF 39 (vcells blk vs 2) ∧ Turns (fun k => k = x ∨ Own3 q p b k) w w10) (fun v _ => 2 - (intOf v).toNat)
          case atStart => exact ⟨0, by omega, rfl, s0, hb, by simpa using hrow, hF, T0⟩
          case round =>
            clear s0 hb hrow hF T0
            obtain ⟨j, hj, rfl, s0, hb, hrow, hF, T0⟩ := hrel
            by_cases hj2 : j < 2
            · obtain ⟨A5, c5, rfl, hr5⟩ := hrow.read
              have hji : j < i := by have := hi2.out; omega
              obtain ⟨g5, rfl, hg5, j1, j2⟩ := hr5 j hji
              have hgb5 := (hrow.lt g5 rfl).1
              have fj1 := OwnV.free hrow (j * 2)
              have fj2 := OwnV.free hrow (j * 2 + 1)
              obtain ⟨u1, u2⟩ := vcells_at blk vs 2 j hj2
              have c1 := (hF.cell (j * 2)).trans u1
              have c2 := (hF.cell (j * 2 + 1)).trans u2
              have b1 : wr.cell? ⟨bt, 1, none⟩ = some (.slice (some ⟨g5, 0, none⟩) i c5) := hb.cell 1
              have hjz : (0 : Int) ≤ (j : Int) := by omega
              have hj2' : (j : Int) < 2 := by omega
              have hji' : (j : Int) < (i : Int) := by omega
              have RR := Lib.hid (And.intro s0 (And.intro hb (And.intro hrow (And.intro hF T0))))
              have WE := Lib.hid (fun w4 M4 K4 (h4 : Wn w4 x q p b e' G M M4 N B blk fv al false full K4) => WV.out j hj2 w4 M4 K4 h4)
              have SE := Lib.hid (fun w4 (h4 : Wn w4 x q p b e' G M (setn M1 N vs j) N B blk fv al false full K'.quiet) => by
                obtain ⟨hx, m1, m2, m3, m4⟩ := HM.out
                obtain ⟨f1, f2, f3, f4, f5, f6⟩ := setn_facts (vs := vs) hx j
                have hval : ∀ k, k < 2 → ((setn M1 N vs j).fld N k).Has (Reach M) := fun k hk => by
                  rw [f6 k]
                  split
                  · exact hvR k hk
                  · rw [m3]; trivial
                have hc1 : (setn M1 N vs j).cell N = c := by rw [f4]; exact m4
                have := h4.hset (j := j) f1 (by rw [f2, m1]; exact HF.out.1) (by rw [f3, m2]; exact HF.out.2) (hval 0 (by omega)) (hval 1 (by omega)) hj2 (fun e0 => by rw [f6 0, if_neg (by omega), m3, hbf]) (hvo j hj2) (hvR j hj2) (by
                  have := hvN j hj2
                  cases hv : vs j with
                  | w y => rfl
                  | t t => rw [hv] at this; show 8 * M.cell t + 1 = 8 * (setn M1 N vs j).cell t + 1; rw [f1.cell t this])
                rw [hc1] at this
                exact this)
              rw [vg_eq] at WE
              generalize hwd : (vs j).wd M.cell = wd at *
              obtain ⟨y, hy⟩ : ∃ y, vw (vs j) = .int .u64 y := by cases vs j <;> exact ⟨_, rfl⟩
              obtain ⟨P, hP⟩ : ∃ P, vp blk (vs j) = .pointer P := by cases vs j <;> exact ⟨_, rfl⟩
              rw [hy] at c1 WE
              rw [hP] at c2 WE
              have YP := Lib.hid (And.intro hy hP)
              have hgl5 : gF < bt := by omega
              have hbtl := hb.lt
              clear s0 hb hrow hF T0 hr5 u1 u2 hy hP hwd
              go_wp2_with fail
              have hv7 : Lies (wr.alloc (.cells #[.int .u64 y, .pointer P] 39)) wr.heap.size 39 [.int .u64 y, .pointer P] := Lies.made wr 39 #[.int .u64 y, .pointer P]
              have tv := (Turns.refl (fun _ => False) wr).alloc (.cells #[.int .u64 y, .pointer P] 39)
              obtain ⟨s0, hb, hrow, hF, T0⟩ := RR.out
              have s7 := s0.quiet tv
              have hb7 := hb.turns tv (fun h => h)
              have hrow7 := hrow.turns tv (fun _ _ h => h)
              have hF7 := hF.turns tv (fun h => h)
              have T7 := T0.then tv (fun i _ h => h.elim)
              clear s0 hb hrow hF T0 RR b1 c1 c2 j1 j2 fj1 fj2
              have hwv : g5 ≠ wr.heap.size := by omega
              have hwx : x ≠ wr.heap.size := by omega
              generalize wr.alloc (.cells #[.int .u64 y, .pointer P] 39) = w7 at *
              generalize wr.heap.size = wv at *
              obtain ⟨j1, j2⟩ := OwnV.at_ hrow7 hji
              have fj1 := OwnV.free hrow7 (j * 2)
              have fj2 := OwnV.free hrow7 (j * 2 + 1)
              have b1 : w7.cell? ⟨bt, 1, none⟩ = some (.slice (some ⟨g5, 0, none⟩) i c5) := hb7.cell 1
              have y0 : w7.cell? ⟨wv, 0, none⟩ = some (.int .u64 y) := hv7.cell 0
              have y1 : w7.cell? ⟨wv, 1, none⟩ = some (.pointer P) := hv7.cell 1
              have n2 : ¬ (g5 = bt) := fun e2 => hrow7.apart hb7 (by decide) (by rw [e2]; rfl)
              have n3 : ¬ (g5 = wv) := hwv
              have m1 : (j * 2 + 1 = j * 2) = False := by simp
              have R7 := Lib.hid (And.intro s7 (And.intro hb7 (And.intro hrow7 (And.intro hF7 (And.intro T7 hv7)))))
              clear s7 hb7 hrow7 hF7 T7 hv7 tv
              go_region_with (fail)
              all_goals
                have D8 : Wn ((w7.setCell ⟨g5, j * 2, none⟩ (.int .u64 y)).setCell ⟨g5, j * 2 + 1, none⟩ (.pointer P)) x q p b e' G M (setn M1 N vs j) N B blk fv al false full K'.quiet ∧
                    Lies ((w7.setCell ⟨g5, j * 2, none⟩ (.int .u64 y)).setCell ⟨g5, j * 2 + 1, none⟩ (.pointer P)) bt 64 [.int .i64 f, .slice (some ⟨g5, 0, none⟩) i c5, .int .u64 (8 * c + 1)] ∧
                    OwnV ((w7.setCell ⟨g5, j * 2, none⟩ (.int .u64 y)).setCell ⟨g5, j * 2 + 1, none⟩ (.pointer P)) bt (.slice (some ⟨g5, 0, none⟩) i c5) blk (fun k => if k < j + 1 then vs k else .w (blank f)) i ∧
                    Lies ((w7.setCell ⟨g5, j * 2, none⟩ (.int .u64 y)).setCell ⟨g5, j * 2 + 1, none⟩ (.pointer P)) gF 39 (vcells blk vs 2) ∧
                    Turns (fun k => k = x ∨ Own3 q p b k) w ((w7.setCell ⟨g5, j * 2, none⟩ (.int .u64 y)).setCell ⟨g5, j * 2 + 1, none⟩ (.pointer P)) ∧
                    Lies ((w7.setCell ⟨g5, j * 2, none⟩ (.int .u64 y)).setCell ⟨g5, j * 2 + 1, none⟩ (.pointer P)) wv 39 [.int .u64 y, .pointer P] := by
                  obtain ⟨s7, hb7, hrow7, hF7, T7, hv7⟩ := R7.out
                  have t8 : Turns (fun k => k = g5) w7 ((w7.setCell ⟨g5, j * 2, none⟩ (.int .u64 y)).setCell ⟨g5, j * 2 + 1, none⟩ (.pointer P)) := ((Turns.refl (fun k => k = g5) w7).setCell (p := ⟨g5, j * 2, none⟩) (fun _ => rfl) _).setCell (p := ⟨g5, j * 2 + 1, none⟩) (fun _ => rfl) _
                  have hrow8 := hrow7.put hji (vs j)
                  rw [YP.out.1, YP.out.2] at hrow8
                  refine ⟨s7.far t8 (fun k hk => by omega) (fun k hk e2 => by have := (LW.out k hk).1; omega) (fun k hk g hg e2 => by have := (LW.out k hk).2 g hg; omega) (fun g hg e2 => by have := LL.out g hg; omega),
                    hb7.turns t8 (fun e2 => n2 e2.symm), ?_, hF7.turns t8 (by omega), T7.then t8 (fun k hk e2 => by omega), hv7.turns t8 (fun e2 => n3 e2.symm)⟩
                  have ef : (fun k => if k = j then vs j else (fun k => if k < j then vs k else V.w (blank f)) k) = fun k => if k < j + 1 then vs k else V.w (blank f) := by
                    funext k
                    by_cases e1 : k = j
                    · subst e1
                      rw [if_pos rfl, if_pos (by omega)]
                    · rw [if_neg e1]
                      show (if k < j then _ else _) = _
                      by_cases e2 : k < j
                      · rw [if_pos e2, if_pos (by omega)]
                      · rw [if_neg e2, if_neg (by omega)]
                  rw [ef] at hrow8
                  exact hrow8
                clear R7 b1 y0 y1 j1 j2 fj1 fj2
                generalize (w7.setCell ⟨g5, j * 2, none⟩ (.int .u64 y)).setCell ⟨g5, j * 2 + 1, none⟩ (.pointer P) = w8 at *
                obtain ⟨s8, hb8, hrow8, hF8, T8, hv8⟩ := D8
                have S8 := Lib.hid s8
                have R8 := Lib.hid (And.intro hb8 (And.intro hrow8 (And.intro hF8 (And.intro T8 hv8))))
                have hwB : B ≤ wv := by omega
                have p0 : w8.cell? ⟨x, 0, none⟩ = some (.pointer (some ⟨q, 0, none⟩)) := s8.cells.cell 0
                have p18 : w8.cell? ⟨x, 18, none⟩ = some (.bool false) := (s8.cells.cell 18).trans rfl
                have y0 : w8.cell? ⟨wv, 0, none⟩ = some (.int .u64 y) := hv8.cell 0
                have y1 : w8.cell? ⟨wv, 1, none⟩ = some (.pointer P) := hv8.cell 1
                clear s8 hb8 hrow8 hF8 T8 hv8
                go_wp2_with fail
                go_region_held3 (fun w' => w'.cell? ⟨x, 0, none⟩ = some (.pointer (some ⟨q, 0, none⟩)) ∧ w'.cell? ⟨x, 18, none⟩ = some (.bool false) ∧ w'.cell? ⟨wv, 0, none⟩ = some (.int .u64 y) ∧ w'.cell? ⟨wv, 1, none⟩ = some (.pointer P)) (first | go_keep | exact k4 | exact k5 | exact k6)
                  (first
                    | (go_at_call 24
                       first
                         | refine (WE.out _ _ _ (S8.out.quiet ((Turns.refl (fun _ => False) _).drew))).mono ?_
                         | refine (WE.out _ _ _ (S8.out.quiet (((Turns.refl (fun _ => False) _).drew).drew))).mono ?_
                       rintro r4 w4 ⟨rfl, s4, t4⟩
                       have ta4 : Turns (fun _ => False) w8 w4 := by first | exact Turns.of_drew t4 | exact Turns.of_drew (Turns.of_drew t4)
                       have hv4 := R8.out.2.2.2.2.turns ta4 (fun h => h)
                       have k4 : w4.cell? ⟨x, 0, none⟩ = some (.pointer (some ⟨q, 0, none⟩)) ∧ w4.cell? ⟨x, 18, none⟩ = some (.bool false) ∧ w4.cell? ⟨wv, 0, none⟩ = some (.int .u64 y) ∧ w4.cell? ⟨wv, 1, none⟩ = some (.pointer P) := ⟨s4.cells.cell 0, (s4.cells.cell 18).trans rfl, hv4.cell 0, hv4.cell 1⟩
                       have Q4 := Lib.hid (And.intro s4 (And.intro hv4 ta4))
                       clear s4 t4 hv4 ta4)
                    | (go_at_call 25
                       refine (SE.out _ Q4.out.1).mono ?_
                       rintro r5 w5 ⟨rfl, s5, t5⟩
                       have hv5 := Q4.out.2.1.turns t5 (s5.not3 hwB)
                       have k5 : w5.cell? ⟨x, 0, none⟩ = some (.pointer (some ⟨q, 0, none⟩)) ∧ w5.cell? ⟨x, 18, none⟩ = some (.bool false) ∧ w5.cell? ⟨wv, 0, none⟩ = some (.int .u64 y) ∧ w5.cell? ⟨wv, 1, none⟩ = some (.pointer P) := ⟨s5.cells.cell 0, (s5.cells.cell 18).trans rfl, hv5.cell 0, hv5.cell 1⟩
                       have f18 := s5.cells.free 18
                       have s6 := s5.setBad hxg false
                       have tz : Turns (fun k => k = x) w5 (w5.setCell ⟨x, 18, none⟩ (.bool false)) := (Turns.refl (fun k => k = x) w5).setCell (p := ⟨x, 18, none⟩) (fun _ => rfl) _
                       have hv6 := hv5.turns tz (by omega)
                       have k6 : (w5.setCell ⟨x, 18, none⟩ (.bool false)).cell? ⟨x, 0, none⟩ = some (.pointer (some ⟨q, 0, none⟩)) ∧ (w5.setCell ⟨x, 18, none⟩ (.bool false)).cell? ⟨x, 18, none⟩ = some (.bool false) ∧ (w5.setCell ⟨x, 18, none⟩ (.bool false)).cell? ⟨wv, 0, none⟩ = some (.int .u64 y) ∧ (w5.setCell ⟨x, 18, none⟩ (.bool false)).cell? ⟨wv, 1, none⟩ = some (.pointer P) := ⟨s6.cells.cell 0, (s6.cells.cell 18).trans rfl, hv6.cell 0, hv6.cell 1⟩
                       have tt : Turns (fun k => k = x ∨ Own3 q p b k) w8 (w5.setCell ⟨x, 18, none⟩ (.bool false)) := ((Q4.out.2.2.mono (fun _ _ h => h.elim)).then t5 (fun i _ h => .inr h)).then tz (fun i _ h => .inl h)
                       have G6 := Lib.hid (And.intro s6 tt)
                       clear s5 hv5 s6 tz hv6 t5 tt))
                all_goals
                  obtain ⟨s6, tt⟩ := G6.out
                  have s6' := s6.weaken (K' := K'.quiet) (fun _ _ _ _ h => Gk.qq h)
                  obtain ⟨hb8, hrow8, hF8, T8, hv8⟩ := R8.out
                  have fB : ∀ k, B ≤ k → ¬ (k = x ∨ Own3 q p b k) := fun k hk h => h.elim (fun h => by omega) (s6.not3 hk)
                  have E1 := hb8.turns tt (fB bt hBt)
                  have E2 := hrow8.turns tt (fun g hg => fB g (by have := (hrow8.lt g hg).1; omega))
                  have E3 := hF8.turns tt (fB gF hgB)
                  have E4 := T8.trans tt
                  have EE := Lib.hid (And.intro s6' (And.intro E1 (And.intro E2 (And.intro E3 E4))))
                  clear s6 tt s6' hb8 hrow8 hF8 T8 hv8 E1 E2 E3 E4 G6 R8 S8 p0 p18 y0 y1 f18 k4 k5 k6
                  go_wp2_with fail
                  go_roundw
                  case rel => exact ⟨j + 1, by omega, by go_num, EE.out.1, EE.out.2.1, EE.out.2.2.1, EE.out.2.2.2.1, EE.out.2.2.2.2⟩
                  case measure => simp [intOf]; omega
            · obtain rfl : j = 2 := by omega
              have k17 : wr.cell? ⟨x, 17, none⟩ = some al := (s0.cells.cell 17).trans rfl
              have hal := s0.all
              have hsz0 := s0.sz
              have SS := Lib.hid (And.intro s0 (And.intro hb (And.intro hrow T0)))
              have hbl := hb.lt
              clear s0 hb hrow hF T0
              go_wp2_with (first
                | (refine wpList_append_ptrs (B := B) (v := al) (x := .slice (some ⟨wr.heap.size, 0, none⟩) 1 1) rfl _ _ 41 rfl Tryd.underlying41 rfl rfl (hal.turns ((Turns.refl (fun _ => False) _).alloc _) (fun _ _ h => h)) (OwnP.one (B := wr.heap.size) wr bt (Nat.le_refl _)) (by simp; omega) (by simp; omega) ?_
                   intro v4 w4 hown4 hg4 hat4
                   have hrd := hown4.read
                   rw [show ((List.range N).map blk ++ [bt]).length = N + 1 by simp] at hrd
                   obtain ⟨A4, q4, ev4, -⟩ := hrd
                   have ht4 : Turns (fun k => al.ownBlock = some k) wr w4 := ((Turns.refl (fun k => al.ownBlock = some k) wr).alloc _).grown hg4 (fun k hk _ => hk)
                   have hx4 := SS.out.1.cells.turns ht4 (fun e => SS.out.1.all.apart SS.out.1.cells (by decide) _ e rfl)
                   have k4 : w4.cell? ⟨x, 17, none⟩ = some al := (hx4.cell 17).trans rfl
                   have f4 := hx4.free 17
                   have S9 := Lib.hid (And.intro hown4 (And.intro ht4 hx4))
                   subst ev4
                   clear hown4 hg4 hat4 ht4 hx4)
                | (go_at_call 22
                   have D9 : Ws (w4.setCell ⟨x, 17, none⟩ (.slice A4 (N + 1) q4)) x q p b e' G (setn M1 N vs 2) (N + 1) B (upd blk N bt) (upd fv N fN) (.slice A4 (N + 1) q4) false full K'.quiet ∧ ∃ H R A D, Tr (w4.setCell ⟨x, 17, none⟩ (.slice A4 (N + 1) q4)) q p b G H ∧ Safe e' G H R (setn M1 N vs 2) A D ∧ K'.quiet.low (N + 1) H R A D ∧ A N := by
                     obtain ⟨hown4, ht4, hx4⟩ := S9.out
                     obtain ⟨sN, hb, hrow, TN⟩ := SS.out
                     obtain ⟨hx, m1, m2, m3, m4⟩ := HM.out
                     obtain ⟨f1, f2, f3, f4, f5, f6⟩ := setn_facts (vs := vs) hx 2
                     have f7 : (setn M1 N vs 2).fld N = fun k => if k < 2 then vs k else V.w (blank f) := by
                       funext k
                       rw [f6 k, m3]
                     have tz : Turns (fun k => k = x) w4 (w4.setCell ⟨x, 17, none⟩ (.slice A4 (N + 1) q4)) := (Turns.refl (fun k => k = x) w4).setCell (p := ⟨x, 17, none⟩) (fun _ => rfl) _
                     exact sN.done f1 hxg (by rw [f2, f4, m1, m4]; exact hb) (by rw [f7, f3, m2]; exact own_base hrow hBt) hBt (fun i hi => by have := (LW.out i hi).1; omega) (fun i hi g hg h => by have := (hrow.lt g hg).1; have := (LW.out i hi).2 g h; omega) (fun j hj => by
                       rw [f7]
                       show (if j < 2 then vs j else V.w (blank f)).Has _
                       split
                       · next h => exact hvN j h
                       · trivial) (fun _ => by rw [f3, m2]; exact HF.out.2)
                       ((ht4.mono (fun _ _ h => .inr h)).setCell (p := ⟨x, 17, none⟩) (fun _ => .inl rfl) _) (hx4.stored 17 _) (hown4.turns tz (fun g hg e => hown4.apart hx4 (by decide) g hg e))
                   refine (SR.out _ bt fN _ D9).mono ?_
                   rintro r9 w9 ⟨rfl, s9, t9⟩))
              go_end0
              exact ⟨rfl, ⟨_, _, _, s9.weaken (fun _ _ _ _ h => Gk.qq h)⟩, (((SS.out.2.2.2.mono (fun _ _ h => .inl h)).then ((S9.out.2.1.mono (Y := fun k => k = x ∨ al.ownBlock = some k) (fun _ _ h => .inr h)).setCell (p := ⟨x, 17, none⟩) (fun _ => .inl rfl) _) (fun k hk h => h.elim (fun h => .inl (.inl h)) (fun h => .inr ⟨(hal.lt k h).1, HAL.out k h⟩))).then t9 (fun i _ h => .inl h))⟩
    · have tq : Turns (fun k => k = r9) wr (Go.ChangeMaps.setBlock w4 r9 (.mapIter (some g) ks.length (sn.push j) ks.length)) := by
        refine Turns.setBlock (X := fun k => k = r9) ?_ (fun _ => rfl) _
        rcases hw4 with rfl | rfl
        · exact Turns.refl _ _
        · exact (Turns.refl _ _).drew
      have hr2 : w4.heap[r9]? = some (.mapIter (some g) ks.length sn ks.length) := by
        rcases hw4 with rfl | rfl <;> exact hi
      have hi2 := PIter.set (g := g) (n := ks.length) hr2 (sn.push j)
      have hs2 := hs.iter hi (by omega) tq
      have hm2 := hm.turns tq (hi.other hm)
      have hne2 : r9 ≠ x := hi.apart hs.cells
      have ht2 : Turns (fun k => k = x ∨ Own3 q p b k) w (Go.ChangeMaps.setBlock w4 r9 (.mapIter (some g) ks.length (sn.push j) ks.length)) := ht.then tq (fun i hi2 e => by omega)
      have hen := hi2.entry hm2 hj
      have hj2 : j < is.length := by rw [← HH.out.2.2.2.out]; exact hj
      have hzz := HH.out.2.2.1 j hj2
      rw [hzz] at hnx hen
      have hzm : is.getD j 0 ∈ is := by simp [List.getD, hj2]
      generalize is.getD j 0 = z at *
      have hzR := (HH.out.1 z).1 hzm
      have hzN := HH.out.2.1 z hzm
      have HL : Hid (leftW wr r9 g = (leftOf (entsFrom ks 0).toArray sn).size ∧ (leftOf (entsFrom ks 0).toArray (sn.push j)).size < (leftOf (entsFrom ks 0).toArray sn).size) := ⟨hi.left hm, hsh⟩
      generalize Go.ChangeMaps.setBlock w4 r9 (.mapIter (some g) ks.length (sn.push j) ks.length) = w3 at *
      have d2 : w3.cell? ⟨blk z, 2, none⟩ = some (.int .u64 (8 * M.cell z + 1)) := (hs2.things.here z hzN).cell 2
      have k18 : w3.cell? ⟨x, 18, none⟩ = some (.bool false) := (hs2.cells.cell 18).trans rfl
      have f18 := hs2.cells.free 18
      have hcb : (8 * M.cell z + 1 == 8 * c + 1) = false := by have := hNE.out z hzR; simp; omega
      have s5 := hs2.setBad hxg false
      have tx : Turns (fun k => k = x) w3 (w3.setCell ⟨x, 18, none⟩ (.bool false)) := (Turns.refl (fun k => k = x) w3).setCell (p := ⟨x, 18, none⟩) (fun _ => rfl) _
      have HE := Lib.hid (And.intro s5 (And.intro (hm2.turns tx (by omega)) (And.intro (hi2.turns tx (by omega)) (ht2.then tx (fun i _ h => .inl h)))))
      clear hs hm hi ht tq hr2 hs2 hm2 hi2 ht2 hsh s5 tx
      generalize M.cell z = cz at *
      generalize blk z = bz at *
      go_wp2_with fail
      go_roundw
      case rel => exact ⟨_, HE.out.1, HE.out.2.1, HE.out.2.2.1, HE.out.2.2.2⟩
      case measure =>
        rw [HE.out.2.2.1.left HE.out.2.1, HL.out.1]
        exact HL.out.2
end Go.Proofs.YtclcnepkgjcmcaaDoor
