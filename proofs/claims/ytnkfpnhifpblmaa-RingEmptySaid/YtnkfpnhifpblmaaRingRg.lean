/- The calls of package ring over three rings that are rows. -/
import Derived.Test.YtnkfpnhifpblmaaRingOne
namespace Go.Proofs.Ytnkfpnhifpblmaa
open Go.ChangeShapes Go.WideShapes Go.ChangeAt Go.RowKit

theorem Rg.congr {n : Nat} {xs : List Int} {R R' : Int → List Int} (g : Rg n xs R) (h : ∀ k, 0 ≤ k → k < 3 → R k = R' k) : Rg n xs R' :=
  ⟨g.len, g.big, fun k k0 k1 => h k k0 k1 ▸ g.path k k0 k1, fun k k0 k1 => h k k0 k1 ▸ g.place k k0 k1, fun k k0 k1 => h k k0 k1 ▸ g.nodup k k0 k1,
    fun j k j0 j1 k0 k1 => h j j0 j1 ▸ h k k0 k1 ▸ g.apart j k j0 j1 k0 k1⟩

/-- what the three calls do to the rows -/
def joinR (R : Int → List Int) (h k : Int) : Int → List Int := fun j => if j = k then [] else if j = h then R h ++ R k else R j
def insR (R : Int → List Int) (h b : Int) : Int → List Int := fun k => if k = h then b :: R h else R k
def remR (R : Int → List Int) (h b : Int) : Int → List Int := fun k => if k = h then (R h).filter (fun x => x != b) else R k

section
variable {p b n K : Nat} {xs : List Int} {R : Int → List Int} {w : World} {h k a c : Int}

theorem rgJoin (g : Rg n xs R) (hs : Had w p b xs K) (hK : K + 10 ≤ 1000000000) (hn : n ≤ 1048576) (ha : a = 3 * h) (hc : c = 3 * k) (h0 : 0 ≤ h) (h1 : h < 3) (k0 : 0 ≤ k) (k1 : k < 3) (hne : h ≠ k) :
    Calls Try.prog 9 #[.pointer (some ⟨p, 0, none⟩), .int .i64 a, .int .i64 c] w fun e w' =>
      e = .returned .nilIface ∧ (∃ ys, Rg n ys (joinR R h k) ∧ Had w' p b ys (K + 10)) ∧ Turns (fun k => k = p ∨ k = b) w w' := by
  subst ha
  subst hc
  have g' := rg_joi g h0 h1 k0 k1 hne
  have hl := g.len
  have main : Calls Try.prog 9 #[.pointer (some ⟨p, 0, none⟩), .int .i64 (3 * h), .int .i64 (3 * k)] w fun e w' =>
      e = .returned .nilIface ∧ Had w' p b (joi xs (3 * h) (3 * k)) (K + 10) ∧ Turns (fun k => k = p ∨ k = b) w w' := by
    by_cases he : gv xs (3 * k + 2) = 3 * k
    · exact ring_Join_no p b xs K (3 * h) (3 * k) w hs hK (by omega) (by rw [hl]; exact g.head k0 k1) he
    · exact ring_Join_yes p b xs K (3 * h) (3 * k) w hs hK (by omega) (by rw [hl]; exact g.head h0 h1) (by rw [hl]; exact g.head k0 k1) (by rw [hl]; exact g.pl k0 k1 (g.next k0 k1 (by simp)))
        (by rw [hl]; exact g.pl k0 k1 (g.last k0 k1)) (by rw [hl]; exact g.pl h0 h1 (g.last h0 h1)) he
  exact main.mono fun e w' ⟨he, hs', ht⟩ => ⟨he, ⟨_, g', hs'⟩, ht⟩

theorem rgInsert (g : Rg n xs R) (hs : Had w p b xs K) (hK : K + 5 ≤ 1000000000) (hn : n ≤ 1048576) (ha : a = 3 * h) (h0 : 0 ≤ h) (h1 : h < 3) (hc : Pl n c) (h9 : 9 ≤ c) (hno : ∀ k, 0 ≤ k → k < 3 → c ∉ R k) :
    Calls Try.prog 12 #[.pointer (some ⟨p, 0, none⟩), .int .i64 a, .int .i64 c] w fun e w' =>
      e = .returned .nilIface ∧ (∃ ys, Rg n ys (insR R h c) ∧ Had w' p b ys (K + 5)) ∧ Turns (fun k => k = p ∨ k = b) w w' := by
  subst ha
  have g' := rg_ins g h0 h1 hc h9 hno
  have hl := g.len
  exact (ring_Insert p b xs K (3 * h) c w hs hK (by omega) (by rw [hl]; exact g.head h0 h1) (by rw [hl]; exact hc) (by rw [hl]; exact g.pl h0 h1 (g.next h0 h1 (by simp)))).mono
    fun e w' ⟨he, hs', ht⟩ => ⟨he, ⟨_, g', hs'⟩, ht⟩

theorem rgRemove (g : Rg n xs R) (hs : Had w p b xs K) (hK : K + 6 ≤ 1000000000) (hn : n ≤ 1048576) (h0 : 0 ≤ h) (h1 : h < 3) (hm : c ∈ R h) :
    Calls Try.prog 10 #[.pointer (some ⟨p, 0, none⟩), .int .i64 c] w fun e w' =>
      e = .returned .nilIface ∧ (∃ ys, Rg n ys (remR R h c) ∧ gv ys (c + 2) = c ∧ Had w' p b ys (K + 6)) ∧ Turns (fun k => k = p ∨ k = b) w w' := by
  obtain ⟨g', hal, h2, h3⟩ := rg_rem g h0 h1 hm
  have hl := g.len
  exact (ring_Remove p b xs K c w hs hK (by omega) (by rw [hl]; exact (g.place h h0 h1 c hm).1) (by rw [hl]; exact h2) (by rw [hl]; exact h3)).mono
    fun e w' ⟨he, hs', ht⟩ => ⟨he, ⟨_, g', hal, hs'⟩, ht⟩

theorem rgAlone (g : Rg n xs R) (hs : Had w p b xs K) (hK : K ≤ 1000000000) (hn : n ≤ 1048576) (hc : Pl n c) (hv : gv xs (c + 2) = c) :
    Calls Try.prog 11 #[.pointer (some ⟨p, 0, none⟩), .int .i64 c] w fun e w' =>
      e = .returned (.tuple #[.bool true, .nilIface]) ∧ Had w' p b xs (K + 1) ∧ Turns (· = p) w w' :=
  ring_Alone p b xs K c w hs hK (by rw [g.len]; exact hn) (by rw [g.len]; exact hc) hv

theorem rgAround {most : Nat} (g : Rg n xs R) (hs : Had w p b xs K) (hK : K ≤ 100000000) (hn : n ≤ 1048576) (ha : a = 3 * k) (k0 : 0 ≤ k) (k1 : k < 3) (hl : (R k).length ≤ most) (hm : most ≤ 1000) :
    Calls Try.prog 13 #[.pointer (some ⟨p, 0, none⟩), .int .i64 a, .int .i64 most] w fun e w' =>
      ∃ v, e = .returned (.tuple #[v, .bool true]) ∧ Own w' w.heap.size v (R k) ∧ Had w' p b xs (K + 2 * most + 2) ∧ Turns (· = p) w w' := by
  subst ha
  exact around_any p b xs K (3 * k) most (R k) w hs hK (by rw [g.len]; exact hn) (g.path k k0 k1) (g.nodup' k0 k1) (fun u hu => by rw [g.len]; exact g.pl k0 k1 hu) hl hm
end

/-- members put behind the first head, one by one -/
def wl : Nat → List Int
  | 0 => []
  | j + 1 => 3 * (3 + (j : Int)) :: wl j
theorem wl_length : ∀ j, (wl j).length = j
  | 0 => rfl
  | j + 1 => by simp [wl, wl_length j]
theorem wl_mem : ∀ (j : Nat) (u : Int), u ∈ wl j → ∃ i : Nat, i < j ∧ u = 3 * (3 + (i : Int))
  | 0, u, h => by simp [wl] at h
  | j + 1, u, h => by
    simp only [wl] at h
    rcases List.mem_cons.1 h with e | h
    · exact ⟨j, by omega, e⟩
    · obtain ⟨i, hi, e⟩ := wl_mem j u h
      exact ⟨i, by omega, e⟩
def wR (j : Nat) : Int → List Int := fun k => if k = 0 then wl j else []
theorem rg_wR {n m : Nat} {xs : List Int} (h : Start n xs (m + 3)) (hn : 9 ≤ n) : Rg n xs (wR 0) :=
  (rg_start h.1 hn (fun j hj => h.2 j (by omega))).congr fun k _ _ => by
    unfold wR
    split <;> rfl
theorem wR_next (j : Nat) : insR (wR j) 0 (3 * (3 + (j : Int))) = wR (j + 1) := by
  funext k
  unfold insR wR
  by_cases h : k = 0
  · simp [h, wl]
  · simp [h]

set_option maxRecDepth 100000 in
set_option maxHeartbeats 1000000 in
theorem ringEmpty_walk (n : Int) (w : World) :
    Calls Try.prog 5 #[.int .i64 n] w fun e w' => e = .returned (.bool true) ∧ Below w.heap.size w w' := by
  obtain ⟨m, hm, hlt⟩ := small_mod n 20 (by omega) (by omega)
  have HM := Lib.hid hm
  clear hm
  go_enter Try.func5, Try.ntmps5
  go_wp2_with fail
  rw [HM.out]
  have e2 : wrap64 ((m : Int) + 3) = m + 3 := by rw [IntWalk.wrap64_in _ ⟨by omega, by omega⟩]
  have e3 : wrap64 (3 * ((m : Int) + 3)) = 3 * (m + 3) := by rw [IntWalk.wrap64_in _ ⟨by omega, by omega⟩]
  rw [e2, e3]
  have hm1 : m ≤ 30 := by omega
  clear e2 e3 HM hlt
  obtain ⟨N, hN⟩ : ∃ N : Nat, N = 3 * (m + 3) := ⟨_, rfl⟩
  refine (had_newi _ N (by omega) (by omega) _).mono ?_
  rintro e w1 ⟨p, b, rfl, hs1, hp, hb, hw1⟩
  go_wp2_with (
    go_at_call 7
    refine (awake_any _).mono ?_
    rintro e w2 ⟨rfl, hw2⟩)
  have hs2 := hs1.st (Turns.of_below hw2 (fun _ => False)) (fun h => h) (fun h => h) (Nat.le_refl _)
  have hb2 := hw1.trans (hw2.mono hw1.size)
  go_loopw [37] (fun k wr => ∃ (j : Nat) (xs : List Int), j ≤ m + 3 ∧ k = .int .i64 j ∧ Start N xs j ∧ Had wr p b xs (2 * j) ∧ Below w.heap.size w wr) (fun k _ => m + 3 - (intOf k).toNat)
  case atStart => exact ⟨0, _, by omega, rfl, start_zero N, hs2, hb2⟩
  case round =>
    obtain ⟨j, xs, hj, rfl, hst, hs3, hb3⟩ := hrel
    by_cases hjm : j < m + 3
    · have I := Lib.hid (init_next p b (2 * j) wr hs3 (by omega) (by omega) hst (by omega))
      clear hst
      go_wp2_with (
        go_at_call 8
        refine I.out.mono ?_
        rintro e w4 ⟨rfl, hst4, hs4, ht4⟩)
      go_roundw
      case rel => exact ⟨j + 1, _, by omega, by go_num, hst4, hs4, hb3.trans (ht4.below hb3.size (fun i hi => by omega))⟩
      case measure => simp [intOf]; omega
    · obtain rfl : j = m + 3 := by omega
      have H1 := rg_wR hst (by omega)
      clear hst
      go_wp2_with fail
      go_loopw [6, 46] (fun o k wr => ∃ (j : Nat) (ys : List Int), j ≤ m ∧ k = .int .i64 j ∧ Rg N ys (wR j) ∧ Own wr w.heap.size o (wl j) ∧ Had wr p b ys (2 * (m + 3) + 5 * j) ∧ Below w.heap.size w wr) (fun _ k _ => m - (intOf k).toNat)
      case atStart => exact ⟨0, xs, by omega, rfl, H1, Own.none_ _ _, hs3.st (Turns.refl (fun _ => False) _) (fun h => h) (fun h => h) (by omega), hb3⟩
      case round =>
        obtain ⟨j, ys, hj2, rfl, hrg, hown, hs5, hb5⟩ := hrel
        by_cases hjm2 : j < m
        · have I := rgInsert (a := 0) (h := 0) (c := 3 * (3 + (j : Int))) hrg hs5 (by omega) (by omega) rfl (by omega) (by omega) ⟨by omega, by omega, by omega⟩ (by omega) (fun k k0 k1 hk => by
            unfold wR at hk
            split at hk
            · obtain ⟨i, hi, e⟩ := wl_mem _ _ hk
              omega
            · simp at hk)
          rw [wR_next] at I
          have II := Lib.hid I
          have hown4 : ∀ w4, Turns (fun k => k = p ∨ k = b) wr w4 → Own w4 w.heap.size u6 (wl j) := by
            intro w4 ht
            obtain ⟨c, -, -, cap, rest, -, l0, l1⟩ := hs5
            exact hown.turns ht (fun g hg e => by
              rcases e with e | e
              · exact hown.apart l0 (by decide) g hg e
              · exact hown.apart l1 (by decide) g hg e)
          have HO := Lib.hid hown4
          have hlen := wl_length j
          clear I hrg hown4
          go_wp2_with (first
            | (go_at_call 12
               refine II.out.mono ?_
               rintro e w6 ⟨rfl, ⟨zs, hrg6, hs6⟩, ht6⟩
               have hown6 := HO.out w6 ht6
               have hb6 := hb5.trans (ht6.below hb5.size (fun i hi => by omega)))
            | (at_builtin
               refine wpList_append_ints (v := .slice (some ⟨w6.heap.size, 0, none⟩) 1 1) (x := u6) rfl _ _ 31 rfl Try.underlying31 rfl rfl (Own.one (B := w.heap.size) w6 (3 * (3 + (j : Int))) hb6.size) (hown6.turns ((Turns.refl (fun _ => False) _).alloc _) (fun _ _ h => h)) (by simp; omega) (by have := hb6.size; simp; omega) ?_
               intro v7 w7 hown7 hgrow7 hat7))
          have ht7 : Turns (fun i => w6.heap.size ≤ i) w6 w7 := ((Turns.refl _ _).alloc _).grown hgrow7 (fun i hi _ => by
            have := hi
            simp [Value.ownBlock] at this
            omega)
          have hs7 := hs6.lt
          go_roundw
          case rel =>
            (repeat apply Exists.intro)
            exact ⟨⟨j + 1, zs, by omega, by go_num, hrg6, hown7, hs6.st ht7 (by omega) (by omega) (by omega), hb6.trans (ht7.below hb6.size (fun i hi => by have := hb6.size; omega))⟩, rfl⟩
          case measure => simp [intOf]; omega
        · obtain rfl : j = m := by omega
          have J1 := rgJoin (a := 0) (c := 3) (h := 0) (k := 1) hrg hs5 (by omega) (by omega) rfl rfl (by omega) (by omega) (by omega) (by omega) (by omega)
          have J2 := fun ys w h1 h2 => rgJoin (K := 2 * (j + 3) + 5 * j + 10) (xs := ys) (n := N) (p := p) (b := b) (w := w) (a := 6) (c := 0) (h := 2) (k := 0) (R := joinR (wR j) 0 1) h1 h2 (by omega) (by omega) rfl rfl (by omega) (by omega) (by omega) (by omega) (by omega)
          have J3 := fun ys w h1 h2 => rgJoin (K := 2 * (j + 3) + 5 * j + 20) (xs := ys) (n := N) (p := p) (b := b) (w := w) (a := 6) (c := 0) (h := 2) (k := 0) (R := joinR (joinR (wR j) 0 1) 2 0) h1 h2 (by omega) (by omega) rfl rfl (by omega) (by omega) (by omega) (by omega) (by omega)
          have hR : joinR (joinR (joinR (wR j) 0 1) 2 0) 2 0 2 = wl j := by simp [joinR, wR]
          have A := fun ys w h1 h2 => rgAround (most := j) (K := 2 * (j + 3) + 5 * j + 30) (xs := ys) (n := N) (p := p) (b := b) (w := w) (a := 6) (k := 2) (R := joinR (joinR (joinR (wR j) 0 1) 2 0) 2 0) h1 h2 (by omega) (by omega) rfl (by omega) (by omega) (by rw [hR, wl_length]; omega) (by omega)
          rw [hR] at A
          have JJ1 := Lib.hid J1
          have JJ2 := Lib.hid J2
          have JJ3 := Lib.hid J3
          have AA := Lib.hid A
          have hown4 : ∀ w4, Turns (fun k => k = p ∨ k = b) wr w4 → Own w4 w.heap.size u6 (wl j) := by
            intro w4 ht
            obtain ⟨c, -, -, cap, rest, -, l0, l1⟩ := hs5
            exact hown.turns ht (fun g hg e => by
              rcases e with e | e
              · exact hown.apart l0 (by decide) g hg e
              · exact hown.apart l1 (by decide) g hg e)
          have HO := Lib.hid hown4
          have hlen := wl_length j
          clear J1 J2 J3 A hR hown4 H1 hrg
          generalize joinR (wR j) 0 1 = R1 at *
          generalize joinR R1 2 0 = R2 at *
          generalize joinR R2 2 0 = R3 at *
          go_wp2_with (first
            | (go_at_call 9
               (with_reducible refine JJ1.out.mono ?_)
               rintro e w6 ⟨rfl, ⟨zs6, hrg6, hs6⟩, ht6⟩)
            | (go_at_call 9
               (with_reducible refine (JJ2.out _ _ hrg6 hs6).mono ?_)
               rintro e w7 ⟨rfl, ⟨zs7, hrg7, hs7⟩, ht7⟩)
            | (go_at_call 9
               (with_reducible refine (JJ3.out _ _ hrg7 hs7).mono ?_)
               rintro e w8 ⟨rfl, ⟨zs8, hrg8, hs8⟩, ht8⟩)
            | (go_at_call 13
               (with_reducible refine (AA.out _ _ hrg8 hs8).mono ?_)
               rintro e w9 ⟨v9, rfl, hown9, hs9, ht9⟩
               have ht9' := ((ht6.trans ht7).trans ht8).trans (ht9.mono fun _ _ e => .inl e))
            | (go_at_call 14
               (with_reducible refine (same_any _ _ _ _ (wl j) _ hown9 (HO.out _ ht9') (by omega)).mono ?_)
               rintro e w10 ⟨rfl, q, rfl⟩))
          go_ret
          exact ⟨rfl, below_drewN (hb5.trans (ht9'.below hb5.size (fun i hi => by omega))) _⟩
end Go.Proofs.Ytnkfpnhifpblmaa
