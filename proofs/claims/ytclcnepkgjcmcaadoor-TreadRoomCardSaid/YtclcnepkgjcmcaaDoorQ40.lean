/- The laws' own world: made, where a cell is free, of no fields that are given. -/
import Derived.Test.YtclcnepkgjcmcaaDoorQ37
import Derived.Test.YtclcnepkgjcmcaaDoorQ38
import Derived.Test.YtclcnepkgjcmcaaDoorQ39
import Derived.Deep.RegionLaw
namespace Go.Proofs.YtclcnepkgjcmcaaDoor
open Go.RowKit

theorem Tryd.infoVal : (Tryd.prog.info? 39).map (fun i => (i.zero, i.size, i.bytes)) = some (some (.agg #[.int .u64 0, .pointer none]), 2, 16) := by kernel_rfl
section
variable {w w' : World} {x q p b r g n : Nat} {sn : Array Nat} {e : Int} {G : Geo} {M M1 : Md} {N B z j : Nat} {blk : Nat → Nat} {fv : Nat → Value} {al : Value} {bad full : Bool} {K : Gk}
theorem Wn.iter (s : Wn w x q p b e G M M1 N B blk fv al bad full K) (k : PIter w r g n sn) (hr : B ≤ r) (t : Turns (fun k => k = r) w w') : Wn w' x q p b e G M M1 N B blk fv al bad full K := by
  obtain ⟨H, R, A, D, h, hs, hk⟩ := s.heap
  have := s.lq; have := s.lp; have := s.lb
  exact ⟨s.cells.turns t (fun e => by have := s.lx; omega), s.things.turns t (fun i hi e => k.apart (s.things.here i hi) e.symm) (fun i hi g hg => row_not_iter (s.things.rows i hi) k g hg), s.all.turns t (fun g hg => row_not_iter s.all k g hg), ⟨H, R, A, D, h.turns t (fun e => by omega) (fun e => by omega) (fun e => by omega) (fun e => by have := h.apart; omega), hs, hk⟩, s.lq, s.lp, s.lb, s.lx, s.apart, s.high, Nat.le_trans s.sz t.size⟩
theorem Wn.reached (s : Wn w x q p b e G M M1 N B blk fv al bad full K) (hN : N ≤ 100000) :
    Calls Tryd.prog 8 #[.pointer (some ⟨x, 0, none⟩)] w fun r w' => ∃ (g : Nat) (is : List Nat), r = .returned (.map (some g)) ∧ PMap w' g (is.map blk) ∧ w.heap.size ≤ g ∧ (∀ i, i ∈ is ↔ Reach M i) ∧ (∀ i ∈ is, i < N) ∧ Wn w' x q p b e G M M1 N B blk fv al bad full K ∧ Turns (fun _ => False) w w' := by
  refine (reached_any blk fv M N B q x al bad full w hN s.cells s.things s.all).mono ?_
  rintro r w' ⟨g, is, rfl, h1, h2, h3, h4, h5, h6⟩
  exact ⟨g, is, rfl, h1, h2, h3, h4, s.quiet h6, h6⟩
end

set_option maxHeartbeats 2000000 in
set_option maxRecDepth 100000 in
theorem Ws.made1 {w : World} {x q p b : Nat} {e e' : Int} {G : Geo} {M : Md} {N B : Nat} {blk : Nat → Nat} {fv : Nat → Value} {al : Value} {full : Bool} {K K' : Gk} (s : Ws w x q p b e G M N B blk fv al false full K) (hN : N ≤ 100000) (hxg : x ≠ 0) (r : Nat) (hr : r < 8) (f : Int) (h13 : f ≠ 3) (n : Nat) (hn : n ≤ 127) (c : Int) (hne : ∀ i, Reach M i → M.cell i ≠ c)
    (hA : Calls Tryd.prog 12 #[.pointer (some ⟨q, 0, none⟩), .int .i64 f, .int .i64 0, .int .i64 n] w fun r w' => r = .returned (.tuple #[.int .u64 (8 * c + 1), .nilIface]) ∧ Wn w' x q p b e' G M (M.add N f n c) N B blk fv al false full K' ∧ Turns (Own3 q p b) w w') :
    Calls Tryd.prog 21 #[.pointer (some ⟨x, 0, none⟩), .int .i64 r, .int .i64 f, .int .i64 n, .slice none 0 0] w fun o w' => o = .returned (.tuple #[]) ∧ (∃ blk' fv' al', (∀ i, i < N → blk' i = blk i) ∧ Ws w' x q p b e' G ((M.add N f n c).setReg r (.t N)) (N + 1) B blk' fv' al' false full K'.quiet) ∧ Turns (DoT w x q p b B) w w' := by
  have hx := Ext.add M N f n c
  have m1 : (M.add N f n c).form N = f := if_pos rfl
  have m2 : (M.add N f n c).len N = n := if_pos rfl
  have m3 : (M.add N f n c).fld N = fun _ => .w (blank f) := by funext k; exact if_pos rfl
  have m4 : (M.add N f n c).cell N = c := if_pos rfl
  have AL := Lib.hid hA
  have p0 : w.cell? ⟨x, 0, none⟩ = some (.pointer (some ⟨q, 0, none⟩)) := s.cells.cell 0
  have RE := Lib.hid (fun w1 (s1 : Wn w1 x q p b e' G M (M.add N f n c) N B blk fv al false full K') => s1.reached hN)
  have RG := Lib.hid (fun w1 g es c hb => run_range_map (P := Tryd.prog) w1 33 37 4 g es c Tryd.underlying33 hb)
  have hBs := s.sz
  have hNE := Lib.hid hne
  have HAL := Lib.hid (fun (k : Nat) (h : al.ownBlock = some k) (ks : List Nat) (pm : PMap w k ks) => s.all.not_map pm h)
  clear hA s hne
  generalize M.add N f n c = M1 at *
  have SR := Lib.hid (fun w9 bt fN al' (s9 : Ws w9 x q p b e' G M1 (N + 1) B (upd blk N bt) (upd fv N fN) al' false full K' ∧ ∃ H R A D, Tr w9 q p b G H ∧ Safe e' G H R M1 A D ∧ K'.low (N + 1) H R A D ∧ A N) => by
    obtain ⟨s9, H, R, A, D, h1, h2, h3, h4⟩ := s9
    have := s9.setRegA h1 h2 h3 hxg hr (v := .t N) trivial h4 (show N < N + 1 by omega)
    rw [vg_eq, show vp (upd blk N bt) (.t N) = Value.pointer (some ⟨bt, 0, none⟩) by show Value.pointer (some ⟨upd blk N bt N, 0, none⟩) = _; rw [upd_at], show vw (.t N) = Value.int .u64 0 from rfl] at this
    exact this)
  have HM := Lib.hid (And.intro hx (And.intro m1 (And.intro m2 (And.intro m3 m4))))
  clear hx m1 m2 m3 m4
  go_enter Tryd.func21, Tryd.ntmps21
  go_wp2_with (first
    | (go_at_call 12
       refine AL.out.mono ?_
       rintro o w1 ⟨rfl, s1, t1⟩)
    | (go_at_call 8
       refine (RE.out _ s1).mono ?_
       rintro o w2 ⟨g, is, rfl, pm, hg, hiff, hlow, s2, t2⟩
       have hkl : ∀ j, j < is.length → (is.map blk).getD j 0 = blk (is.getD j 0) := fun j hj => by simp [List.getD, hj]
       have hll : Hid ((is.map blk).length = is.length) := List.length_map _
       generalize is.map blk = ks at *
       have hrg := RG.out w2 g _ _ pm))
  have hm1 := pm.turns ((Turns.refl (fun _ => False) w2).alloc (.mapIter (some g) ks.length #[] ks.length)) (fun h => h)
  have hi1 := PIter.made w2 g ks.length
  have s3 := s2.quiet ((Turns.refl (fun _ => False) w2).alloc (.mapIter (some g) ks.length #[] ks.length))
  have t3 : Turns (DoT w x q p b B) w (w2.alloc (.mapIter (some g) ks.length #[] ks.length)) := (((t1.mono fun _ _ h => .inl (.inr h)).then t2 (fun i _ h => h.elim)).alloc _)
  have hBr := Nat.le_trans s2.sz (Nat.le_refl _)
  have hwr9 := Nat.le_trans t1.size t2.size
  have HH := Lib.hid (And.intro hiff (And.intro hlow (And.intro hkl hll)))
  have hgB : B ≤ g := Nat.le_trans s1.sz hg
  have hxB := s1.lx
  clear pm hrg s1 s2 t1 t2 hiff hlow hkl hll
  generalize hrr : w2.heap.size = r9 at *
  go_loopw [] (fun wr => ∃ sn : Array Nat, Wn wr x q p b e' G M M1 N B blk fv al false full K' ∧ PMap wr g ks ∧ PIter wr r9 g ks.length sn ∧ Turns (DoT w x q p b B) w wr) (fun wr => leftW wr r9 g)
  case atStart => exact ⟨_, s3, hm1, hi1, t3⟩
  case round =>
    clear s3 hm1 hi1 t3
    obtain ⟨sn, hs, hm, hi, ht⟩ := hrel
    rcases hi.next hm with ⟨-, hnx⟩ | ⟨j, hj, hsn, hsh, w4, hw4, hnx⟩
    · have HE := Lib.hid (And.intro hs ht)
      clear hs hm hi ht
      go_wp2_with fail
      have hb0 : Lies (wr.alloc (.cells #[.int .i64 f, .slice none 0 0, .int .u64 (8 * c + 1)] 64)) wr.heap.size 64 [.int .i64 f, .slice none 0 0, .int .u64 (8 * c + 1)] := Lies.made wr 64 #[.int .i64 f, .slice none 0 0, .int .u64 (8 * c + 1)]
      have tq0 := (Turns.refl (fun _ => False) wr).alloc (.cells #[.int .i64 f, .slice none 0 0, .int .u64 (8 * c + 1)] 64)
      generalize wr.alloc (.cells #[.int .i64 f, .slice none 0 0, .int .u64 (8 * c + 1)] 64) = w6 at *
      generalize hbt : wr.heap.size = bt at *
      go_loopw [72] (fun v72 wr5 => ∃ (i : Nat) (fN : Value), i ≤ n ∧ v72 = .int .i64 i ∧ Lies wr5 bt 64 [.int .i64 f, fN, .int .u64 (8 * c + 1)] ∧ OwnV wr5 bt fN blk (fun _ => .w (blank f)) i ∧ Turns (fun _ => False) wr wr5) (fun v _ => n - (intOf v).toNat)
      case atStart => exact ⟨0, .slice none 0 0, by omega, rfl, hb0, World.ownsRow_nil _ _ _ _, tq0⟩
      case round =>
        clear hb0 tq0
        obtain ⟨i, fN, hi, rfl, hb, hrow, htt⟩ := hrel
        by_cases hin : i < n
        · obtain ⟨A5, c5, rfl, -⟩ := hrow.read
          have VO := Lib.hid (fun w7 => void_any w7)
          have b1 : wr.cell? ⟨bt, 1, none⟩ = some (.slice A5 i c5) := hb.cell 1
          have fb1 := hb.free 1
          have hbl := hb.lt
          have HR := Lib.hid (And.intro hb (And.intro hrow htt))
          clear hb hrow htt
          by_cases hf2 : f = 2
          · have hfb : (f == 2) = true := by simpa using hf2
            have hf3 := Lib.hid hf2
            clear hf2
            go_wp2_with (go_at_call 14; refine (VO.out _).mono ?_; rintro o w8 ⟨rfl, rfl⟩)
            have hbf : blank f = 0 := if_pos hf3.out
            have hv7 : Lies (wr.alloc (.cells #[.int .u64 0, .pointer none] 39)) wr.heap.size 39 [.int .u64 0, .pointer none] := Lies.made wr 39 #[.int .u64 0, .pointer none]
            have tv := (Turns.refl (fun _ => False) wr).alloc (.cells #[.int .u64 0, .pointer none] 39)
            have hb7 := HR.out.1.turns tv (fun h => h)
            have hrow7 := HR.out.2.1.turns tv (fun _ _ h => h)
            have T7 := HR.out.2.2.then tv (fun i _ h => h)
            clear HR b1 fb1 hbl tv
            generalize wr.alloc (.cells #[.int .u64 0, .pointer none] 39) = w7 at *
            generalize wr.heap.size = wv at *
            have b1 : w7.cell? ⟨bt, 1, none⟩ = some (.slice A5 i c5) := hb7.cell 1
            have y0 : w7.cell? ⟨wv, 0, none⟩ = some (.int .u64 0) := hv7.cell 0
            have y1 : w7.cell? ⟨wv, 1, none⟩ = some (.pointer none) := hv7.cell 1
            have hbl := hb7.lt
            have R7 := Lib.hid (And.intro hb7 (And.intro hrow7 T7))
            clear hb7 hrow7 T7 hv7
            go_region_law
              ((first
                | (refine step_append_own (w := (w7.alloc (.cells #[.int .u64 0, .pointer none] 39)).drew) (v := .slice A5 i c5) (x := .slice (some ⟨w7.heap.size, 0, none⟩) 1 1) (B := bt) (B' := 0) (n := i) (xs := vcells blk (fun _ => .w (blank f)) i) (cs := [.int .u64 0, .pointer none]) (.agg #[.int .u64 0, .pointer none]) 16 Tryd.infoVal rfl (by decide) rfl _ _ 62 (by rfl) Tryd.underlying62 (by rfl) (by rfl) (own_turns R7.out.2.1 (((Turns.refl (fun _ => False) w7).alloc _).drew) (fun _ _ h => h)) (own_one (B := 0) w7 #[.int .u64 0, .pointer none] rfl (Nat.zero_le _)) (by intro u hu; simp at hu; rcases hu with rfl | rfl <;> rfl) (by omega) (by omega) (by simp; omega) ?_
                   intro v9 w9 hown9 hg9 hat9
                   have T9 : Turns (fun k => (Value.slice A5 i c5).ownBlock = some k) w7 w9 := ((Turns.refl (fun k => (Value.slice A5 i c5).ownBlock = some k) w7).alloc (.cells #[.int .u64 0, .pointer none] 39)).drew.then (Turns.appendedS hg9) (fun _ _ h => h)
                   have hb9 := R7.out.1.turns T9 (R7.out.2.1.apart R7.out.1 (by decide))
                   have T10 := R7.out.2.2.then T9 (fun k hk h => by have := (R7.out.2.1.lt k h).1; omega)
                   obtain ⟨A9, q9, rfl, -⟩ := own_read hown9
                   have c9 : w9.cell? ⟨bt, 1, none⟩ = some (.slice A5 i c5) := hb9.cell 1
                   have f9 := hb9.free 1
                   have R9 := Lib.hid (And.intro hb9 (And.intro hown9 T10))
                   clear hb9 T9 T10 hg9 hat9 hown9)))
            all_goals
              obtain ⟨hb9, hown9, T10⟩ := R9.out
              have hz9 := hb9.stored 1 (.slice A9 (i + 1) q9)
              have tz : Turns (fun k => k = bt) w9 (w9.setCell ⟨bt, 1, none⟩ (.slice A9 (i + 1) q9)) := (Turns.refl (fun k => k = bt) w9).setCell (p := ⟨bt, 1, none⟩) (fun _ => rfl) _
              have ho9 : OwnV w9 bt (.slice A9 (i + 1) q9) blk (fun _ => .w (blank f)) (i + 1) := by
                unfold OwnV
                rw [vcells, hbf]
                rw [hbf] at hown9
                exact hown9
              have ho10 := ho9.turns tz (fun k hk e => ho9.apart hb9 (by decide) (e ▸ hk))
              have T11 := T10.then tz (fun k hk e => by omega)
              have R11 := Lib.hid (And.intro hz9 (And.intro ho10 T11))
              clear hb9 hown9 T10 hz9 tz ho9 ho10 T11 R9 f9 c9 b1 y0 y1
              go_wp2_with fail
              go_roundw
              case rel => exact ⟨i + 1, _, by omega, by go_num, R11.out.1, R11.out.2.1, R11.out.2.2⟩
              case measure => simp [intOf]; omega
          · have hfb : (f == 2) = false := by simpa using hf2
            have hf3 := Lib.hid hf2
            clear hf2
            go_wp2_with (go_at_call 14; refine (VO.out _).mono ?_; rintro o w8 ⟨rfl, rfl⟩)
            have hbf : blank f = 12 := if_neg hf3.out
            have hv7 : Lies (wr.alloc (.cells #[.int .u64 12, .pointer none] 39)) wr.heap.size 39 [.int .u64 12, .pointer none] := Lies.made wr 39 #[.int .u64 12, .pointer none]
            have tv := (Turns.refl (fun _ => False) wr).alloc (.cells #[.int .u64 12, .pointer none] 39)
            have hb7 := HR.out.1.turns tv (fun h => h)
            have hrow7 := HR.out.2.1.turns tv (fun _ _ h => h)
            have T7 := HR.out.2.2.then tv (fun i _ h => h)
            clear HR b1 fb1 hbl tv
            generalize wr.alloc (.cells #[.int .u64 12, .pointer none] 39) = w7 at *
            generalize wr.heap.size = wv at *
            have b1 : w7.cell? ⟨bt, 1, none⟩ = some (.slice A5 i c5) := hb7.cell 1
            have y0 : w7.cell? ⟨wv, 0, none⟩ = some (.int .u64 12) := hv7.cell 0
            have y1 : w7.cell? ⟨wv, 1, none⟩ = some (.pointer none) := hv7.cell 1
            have hbl := hb7.lt
            have R7 := Lib.hid (And.intro hb7 (And.intro hrow7 T7))
            clear hb7 hrow7 T7 hv7
            go_region_law
              ((first
                | (refine step_append_own (w := (w7.alloc (.cells #[.int .u64 12, .pointer none] 39)).drew) (v := .slice A5 i c5) (x := .slice (some ⟨w7.heap.size, 0, none⟩) 1 1) (B := bt) (B' := 0) (n := i) (xs := vcells blk (fun _ => .w (blank f)) i) (cs := [.int .u64 12, .pointer none]) (.agg #[.int .u64 0, .pointer none]) 16 Tryd.infoVal rfl (by decide) rfl _ _ 62 (by rfl) Tryd.underlying62 (by rfl) (by rfl) (own_turns R7.out.2.1 (((Turns.refl (fun _ => False) w7).alloc _).drew) (fun _ _ h => h)) (own_one (B := 0) w7 #[.int .u64 12, .pointer none] rfl (Nat.zero_le _)) (by intro u hu; simp at hu; rcases hu with rfl | rfl <;> rfl) (by omega) (by omega) (by simp; omega) ?_
                   intro v9 w9 hown9 hg9 hat9
                   have T9 : Turns (fun k => (Value.slice A5 i c5).ownBlock = some k) w7 w9 := ((Turns.refl (fun k => (Value.slice A5 i c5).ownBlock = some k) w7).alloc (.cells #[.int .u64 12, .pointer none] 39)).drew.then (Turns.appendedS hg9) (fun _ _ h => h)
                   have hb9 := R7.out.1.turns T9 (R7.out.2.1.apart R7.out.1 (by decide))
                   have T10 := R7.out.2.2.then T9 (fun k hk h => by have := (R7.out.2.1.lt k h).1; omega)
                   obtain ⟨A9, q9, rfl, -⟩ := own_read hown9
                   have c9 : w9.cell? ⟨bt, 1, none⟩ = some (.slice A5 i c5) := hb9.cell 1
                   have f9 := hb9.free 1
                   have R9 := Lib.hid (And.intro hb9 (And.intro hown9 T10))
                   clear hb9 T9 T10 hg9 hat9 hown9)))
            all_goals
              obtain ⟨hb9, hown9, T10⟩ := R9.out
              have hz9 := hb9.stored 1 (.slice A9 (i + 1) q9)
              have tz : Turns (fun k => k = bt) w9 (w9.setCell ⟨bt, 1, none⟩ (.slice A9 (i + 1) q9)) := (Turns.refl (fun k => k = bt) w9).setCell (p := ⟨bt, 1, none⟩) (fun _ => rfl) _
              have ho9 : OwnV w9 bt (.slice A9 (i + 1) q9) blk (fun _ => .w (blank f)) (i + 1) := by
                unfold OwnV
                rw [vcells, hbf]
                rw [hbf] at hown9
                exact hown9
              have ho10 := ho9.turns tz (fun k hk e => ho9.apart hb9 (by decide) (e ▸ hk))
              have T11 := T10.then tz (fun k hk e => by omega)
              have R11 := Lib.hid (And.intro hz9 (And.intro ho10 T11))
              clear hb9 hown9 T10 hz9 tz ho9 ho10 T11 R9 f9 c9 b1 y0 y1
              go_wp2_with fail
              go_roundw
              case rel => exact ⟨i + 1, _, by omega, by go_num, R11.out.1, R11.out.2.1, R11.out.2.2⟩
              case measure => simp [intOf]; omega
        · obtain rfl : i = n := by omega
          have sN := HE.out.1.quiet htt
          have TN := HE.out.2.then htt (fun i _ h => h.elim)
          have k17 : wr.cell? ⟨x, 17, none⟩ = some al := (sN.cells.cell 17).trans rfl
          have hBt : B ≤ bt := hbt ▸ HE.out.1.sz
          have hlow : ∀ k, k < N → blk k < bt ∧ ∀ g, (fv k).ownBlock = some g → g < bt := fun k hk => ⟨hbt ▸ (HE.out.1.things.here k hk).lt, fun g hg => hbt ▸ ((HE.out.1.things.rows k hk).lt g hg).2⟩
          have SS := Lib.hid (And.intro sN (And.intro hb (And.intro hrow (And.intro TN hlow))))
          have hbl := hb.lt
          clear hb hrow htt TN hlow
          go_wp2_with fail
          go_loopw [92] (fun v92 w10 => v92 = .int .i64 0 ∧ w10 = wr) (fun _ _ => 0)
          case atStart => exact ⟨rfl, rfl⟩
          case round =>
            obtain ⟨rfl, rfl⟩ := hrel
            go_wp2_with (first
              | (refine wpList_append_ptrs (B := B) (v := al) (x := .slice (some ⟨wr.heap.size, 0, none⟩) 1 1) rfl _ _ 41 rfl Tryd.underlying41 rfl rfl (sN.all.turns ((Turns.refl (fun _ => False) _).alloc _) (fun _ _ h => h)) (OwnP.one (B := wr.heap.size) wr bt (Nat.le_refl _)) (by simp; omega) (by have := sN.sz; simp; omega) ?_
                 intro v4 w4 hown4 hg4 hat4
                 have hrd := hown4.read
                 rw [show ((List.range N).map blk ++ [bt]).length = N + 1 by simp] at hrd
                 obtain ⟨A4, q4, ev4, -⟩ := hrd
                 have ht4 : Turns (fun k => al.ownBlock = some k) wr w4 := ((Turns.refl (fun k => al.ownBlock = some k) wr).alloc _).grown hg4 (fun k hk _ => hk)
                 have hx4 := SS.out.1.cells.turns ht4 (fun e => SS.out.1.all.apart SS.out.1.cells (by decide) _ e rfl)
                 have k4 : w4.cell? ⟨x, 17, none⟩ = some al := (hx4.cell 17).trans rfl
                 have f4 := hx4.free 17
                 have S9 := Lib.hid (And.intro hown4 (And.intro ht4 hx4))
                 subst ev4
                 clear hown4 hg4 hat4 ht4 hx4)
              | (go_at_call 22
                 have D9 : Ws (w4.setCell ⟨x, 17, none⟩ (.slice A4 (N + 1) q4)) x q p b e' G M1 (N + 1) B (upd blk N bt) (upd fv N fN) (.slice A4 (N + 1) q4) false full K' ∧ ∃ H R A D, Tr (w4.setCell ⟨x, 17, none⟩ (.slice A4 (N + 1) q4)) q p b G H ∧ Safe e' G H R M1 A D ∧ K'.low (N + 1) H R A D ∧ A N := by
                   obtain ⟨hown4, ht4, hx4⟩ := S9.out
                   obtain ⟨sN, hb, hrow, TN, hlow⟩ := SS.out
                   obtain ⟨hx, m1, m2, m3, m4⟩ := HM.out
                   have tz : Turns (fun k => k = x) w4 (w4.setCell ⟨x, 17, none⟩ (.slice A4 (N + 1) q4)) := (Turns.refl (fun k => k = x) w4).setCell (p := ⟨x, 17, none⟩) (fun _ => rfl) _
                   exact sN.done hx hxg (by rw [m1, m4]; exact hb) (by rw [m3, m2]; exact own_base hrow hBt) hBt (fun i hi => by have := (hlow i hi).1; omega) (fun i hi g hg h => by have := (hrow.lt g hg).1; have := (hlow i hi).2 g h; omega) (fun j hj => by rw [m3]; trivial) (fun h => absurd (m1.symm.trans h) h13)
                     ((ht4.mono (fun _ _ h => .inr h)).setCell (p := ⟨x, 17, none⟩) (fun _ => .inl rfl) _) (hx4.stored 17 _) (hown4.turns tz (fun g hg e => hown4.apart hx4 (by decide) g hg e))
                 refine (SR.out _ bt fN _ D9).mono ?_
                 rintro r9 w9 ⟨rfl, s9, t9⟩))
            go_end0
            exact ⟨rfl, ⟨_, _, _, fun i hi => upd_lo _ _ hi, s9⟩, ((SS.out.2.2.2.1.then ((S9.out.2.1.mono (Y := fun k => k = x ∨ al.ownBlock = some k) (fun _ _ h => .inr h)).setCell (p := ⟨x, 17, none⟩) (fun _ => .inl rfl) _) (fun k hk h => h.elim (fun h => .inl (.inl h)) (fun h => .inr ⟨(sN.all.lt k h).1, HAL.out k h⟩))).then t9 (fun i _ h => .inl h))⟩
    · have tq : Turns (fun k => k = r9) wr (Go.ChangeMaps.setBlock w4 r9 (.mapIter (some g) ks.length (sn.push j) ks.length)) := by
        refine Turns.setBlock (X := fun k => k = r9) ?_ (fun _ => rfl) _
        rcases hw4 with rfl | rfl
        · exact Turns.refl _ _
        · exact (Turns.refl _ _).drew
      have hr2 : w4.heap[r9]? = some (.mapIter (some g) ks.length sn ks.length) := by
        rcases hw4 with rfl | rfl <;> exact hi
      have hi2 := PIter.set (g := g) (n := ks.length) hr2 (sn.push j)
      have hs2 := hs.iter hi (by omega) tq
      have hm2 := hm.turns tq (hi.other hm)
      have hne2 : r9 ≠ x := hi.apart hs.cells
      have ht2 : Turns (DoT w x q p b B) w (Go.ChangeMaps.setBlock w4 r9 (.mapIter (some g) ks.length (sn.push j) ks.length)) := ht.then tq (fun i hi2 e => absurd hi2 (by omega))
      have hen := hi2.entry hm2 hj
      have hj2 : j < is.length := by rw [← HH.out.2.2.2.out]; exact hj
      have hzz := HH.out.2.2.1 j hj2
      rw [hzz] at hnx hen
      have hzm : is.getD j 0 ∈ is := by simp [List.getD, hj2]
      generalize is.getD j 0 = z at *
      have hzR := (HH.out.1 z).1 hzm
      have hzN := HH.out.2.1 z hzm
      have HL : Hid (leftW wr r9 g = (leftOf (entsFrom ks 0).toArray sn).size ∧ (leftOf (entsFrom ks 0).toArray (sn.push j)).size < (leftOf (entsFrom ks 0).toArray sn).size) := ⟨hi.left hm, hsh⟩
      generalize Go.ChangeMaps.setBlock w4 r9 (.mapIter (some g) ks.length (sn.push j) ks.length) = w3 at *
      have d2 : w3.cell? ⟨blk z, 2, none⟩ = some (.int .u64 (8 * M.cell z + 1)) := (hs2.things.here z hzN).cell 2
      have k18 : w3.cell? ⟨x, 18, none⟩ = some (.bool false) := (hs2.cells.cell 18).trans rfl
      have f18 := hs2.cells.free 18
      have hcb : (8 * M.cell z + 1 == 8 * c + 1) = false := by have := hNE.out z hzR; simp; omega
      have s5 := hs2.setBad hxg false
      have tx : Turns (fun k => k = x) w3 (w3.setCell ⟨x, 18, none⟩ (.bool false)) := (Turns.refl (fun k => k = x) w3).setCell (p := ⟨x, 18, none⟩) (fun _ => rfl) _
      have HE := Lib.hid (And.intro s5 (And.intro (hm2.turns tx (by omega)) (And.intro (hi2.turns tx (by omega)) (ht2.then tx (fun i _ h => .inl (.inl h))))))
      clear hs hm hi ht tq hr2 hs2 hm2 hi2 ht2 hsh s5 tx
      generalize M.cell z = cz at *
      generalize blk z = bz at *
      go_wp2_with fail
      go_roundw
      case rel => exact ⟨_, HE.out.1, HE.out.2.1, HE.out.2.2.1, HE.out.2.2.2⟩
      case measure =>
        rw [HE.out.2.2.1.left HE.out.2.1, HL.out.1]
        exact HL.out.2
end Go.Proofs.YtclcnepkgjcmcaaDoor
