/- The plain mathematics of layer 11, on: what stays right of a table, and what an alias means. No dump is read here. -/
import Derived.Test.YtbomodendobnkaaGreatQ13
import Derived.Lib.ItoaLen
import Derived.Lib.IndexBytes
import Derived.Test.YtbomodendobnkaaGreatQ34
namespace Go.Proofs.YtbomodendobnkaaGreat.EM
open Go.RowKit

theorem sy_size {x : ByteArray} (h : sy x = true) : 1 ≤ x.size ∧ x.size ≤ 60 := by
  unfold sy LM.sym at h
  simp only [Bool.and_eq_true, decide_eq_true_eq] at h
  have e : x.data.toList.length = x.size := rfl
  omega
theorem sy_no {x : ByteArray} (h : sy x = true) : (32 : UInt8) ∉ x.data.toList := by
  unfold sy LM.sym at h
  simp only [Bool.and_eq_true, List.all_eq_true] at h
  intro hm
  have := h.2.1 32 hm
  exact absurd this (by decide)
theorem cut_at : ∀ (l r : List UInt8), (32 : UInt8) ∉ l → Lib.index (l ++ 32 :: r) [32] = l.length
  | [], r, _ => by simp [Lib.index, List.isPrefixOf]
  | b :: l, r, h => by
    have h1 : ¬ (32 : UInt8) = b := fun e => h (by simp [e])
    have h2 : (32 : UInt8) ∉ l := fun e => h (by simp [e])
    have e1 : ((32 : UInt8) == b) = false := beq_eq_false_iff_ne.2 h1
    show (if ([32] : List UInt8).isPrefixOf (b :: (l ++ 32 :: r)) then (0 : Int) else if Lib.index (l ++ 32 :: r) [32] == -1 then -1 else Lib.index (l ++ 32 :: r) [32] + 1) = _
    rw [cut_at l r h2]
    rw [show ([32] : List UInt8).isPrefixOf (b :: (l ++ 32 :: r)) = false by simp [List.isPrefixOf, e1]]
    rw [if_neg (by decide), if_neg (by simp)]
    simp
theorem call_list (s : ByteArray) (k : Nat) : (call s k).data.toList = s.data.toList ++ 32 :: Lib.itoa (k : Int) := by
  unfold call sp
  rw [ByteArray.data_append, ByteArray.data_append]
  simp
theorem ba_ext {a b : ByteArray} (h : a.data.toList = b.data.toList) : a = b := by
  cases a; cases b; congr; exact Array.toList_inj.1 h
theorem pre_call {s : ByteArray} (h : sy s = true) (k : Nat) : pre (call s k) = s := by
  apply ba_ext
  unfold pre Lib.cut
  rw [call_list, cut_at _ _ (sy_no h), if_pos (by omega)]
  simp
theorem split_eq : ∀ {l l' r r' : List UInt8}, (32 : UInt8) ∉ l → (32 : UInt8) ∉ l' → l ++ 32 :: r = l' ++ 32 :: r' → l = l' ∧ r = r'
  | [], [], r, r', _, _, h => ⟨rfl, by simpa using h⟩
  | [], b :: l', r, r', _, h2, h => by simp at h; exact absurd (by simp [h.1]) h2
  | b :: l, [], r, r', h1, _, h => by simp at h; exact absurd (by simp [h.1]) h1
  | b :: l, c :: l', r, r', h1, h2, h => by
    simp only [List.cons_append, List.cons.injEq] at h
    obtain ⟨e1, e2⟩ := split_eq (fun e => h1 (by simp [e])) (fun e => h2 (by simp [e])) h.2
    exact ⟨by rw [h.1, e1], e2⟩
theorem itoa_nat (k : Nat) : Lib.itoa (k : Int) = Lib.decDigits k := by unfold Lib.itoa; rw [if_neg (by omega)]; simp
theorem call_inj {s s' : ByteArray} {k k' : Nat} (h : sy s = true) (h' : sy s' = true) (e : call s k = call s' k') : s = s' ∧ k = k' := by
  have e2 := congrArg (fun b => b.data.toList) e
  simp only [call_list] at e2
  obtain ⟨e3, e4⟩ := split_eq (sy_no h) (sy_no h') e2
  rw [itoa_nat, itoa_nat] at e4
  have v1 := (FM.dec_digs k).2
  have v2 := (FM.dec_digs k').2
  rw [e4, v2] at v1
  exact ⟨ba_ext e3, by omega⟩
theorem call_not {s : ByteArray} (k : Nat) : sy (call s k) = false := by
  cases h : sy (call s k) with
  | false => rfl
  | true =>
    have := sy_no h
    rw [call_list] at this
    exact absurd (by simp) this
theorem call_size {s : ByteArray} (h : s.size ≤ 60) {k : Nat} (hk : k ≤ 1000000) : (call s k).size ≤ 100 := by
  have e : (call s k).size = (call s k).data.toList.length := rfl
  have e1 : s.data.toList.length = s.size := rfl
  have := Lib.itoa_length_le (k : Int) (by omega) (by omega)
  rw [e, call_list, List.length_append, List.length_cons]
  omega

/-- what stays right of a table -/
structure Ok (T : Tb) : Prop where
  ups : Ups T.P
  len : T.P.length ≤ 65536
  na : T.na ≤ 65536
  al : ∀ x b, T.A x = some b → b.at_ ≤ T.P.length ∧ b.nm.size ≤ 1000 ∧ ∃ s k, sy s = true ∧ 1 ≤ k ∧ k ≤ T.na ∧ x = call s k
  pn : ∀ p ∈ T.P, sy p.nm = true ∨ (T.A p.nm).isSome = true

section
variable {T : Tb} {x : ByteArray} {a : Nat}
theorem Ok.bs_at (h : Ok T) (ha : a ≤ T.P.length) : (bs T a x).at_ ≤ T.P.length := by
  unfold bs
  split
  · cases hA : T.A x with
    | none => exact Nat.zero_le _
    | some b => exact (h.al x b hA).1
  · exact Nat.le_trans (nr_le h.ups x a) ha
theorem Ok.bs_nm (h : Ok T) (hx : x.size ≤ 1000) : (bs T a x).nm.size ≤ 1000 := by
  unfold bs
  split
  · cases hA : T.A x with
    | none => exact hx
    | some b => exact (h.al x b hA).2.1
  · exact hx
/-- where the name stands, if a place binds it -/
theorem ck_zero {a : Int} (h : ck T a x = 0) : 0 ≤ a ∧ a ≤ T.P.length ∧ kd T x ≠ 0 := by
  unfold ck at h
  split at h
  · omega
  · split at h
    · omega
    · rename_i h1 h2; exact ⟨by omega, by omega, h2⟩
theorem kd_cases (h : kd T x ≠ 0) : (sy x = true ∧ kd T x = 1) ∨ (sy x = false ∧ (T.A x).isSome = true ∧ kd T x = 2) := by
  unfold kd at h ⊢
  cases hs : sy x with
  | true => exact .inl ⟨rfl, rfl⟩
  | false =>
    rw [hs] at h
    cases ha : (T.A x).isSome with
    | true => exact .inr ⟨rfl, rfl, rfl⟩
    | false => rw [ha] at h; simp at h
theorem Ok.kd_size (h : Ok T) (hk : kd T x ≠ 0) : x.size ≤ 100 := by
  rcases kd_cases hk with ⟨hs, _⟩ | ⟨_, ha, _⟩
  · have := sy_size hs; omega
  · obtain ⟨b, hb⟩ := Option.isSome_iff_exists.1 ha
    obtain ⟨_, _, s, k, h1, h2, h3, rfl⟩ := h.al x b hb
    have := h.na
    exact call_size (by have := sy_size h1; omega) (by omega)
theorem Ok.st_sy (h : Ok T) (hk : kd T x ≠ 0) : sy (st T x) = true := by
  unfold st
  rcases kd_cases hk with ⟨hs, e⟩ | ⟨_, ha, e⟩
  · rw [e, if_neg (by omega), if_pos rfl]; exact hs
  · rw [e, if_pos rfl]
    obtain ⟨b, hb⟩ := Option.isSome_iff_exists.1 ha
    obtain ⟨_, _, s, k, h1, h2, h3, rfl⟩ := h.al x b hb
    rw [pre_call h1]; exact h1
theorem Ok.top (h : Ok T) (x : ByteArray) (k n : Int) : Ok (top T x k n) := by
  unfold EM.top
  split
  · exact ⟨h.ups, h.len, h.na, h.al, h.pn⟩
  · exact h
theorem Ok.ext (h : Ok T) (a : Int) (x : ByteArray) (k n : Int) : Ok (ext T a x k n) := by
  unfold EM.ext
  split
  · rename_i he
    unfold xe at he
    split at he
    · exact absurd he ‹_›
    · rename_i hc
      have hc : ck T a x = 0 := by simpa using hc
      split at he
      · omega
      · split at he
        · omega
        · rename_i h1 h2
          obtain ⟨c1, c2, c3⟩ := ck_zero hc
          refine ⟨h.ups.snoc (by show a.toNat ≤ _; omega), by simp; omega, h.na, fun y b hb => ?_, fun p hp => ?_⟩
          · obtain ⟨r1, r2⟩ := h.al y b hb
            exact ⟨by simp; omega, r2⟩
          · rcases List.mem_append.1 hp with hp | hp
            · exact h.pn p hp
            · simp at hp
              subst hp
              rcases kd_cases c3 with ⟨hs, _⟩ | ⟨_, hs, _⟩
              · exact .inl hs
              · exact .inr hs
  · exact h
theorem Ok.fresh (h : Ok T) {s : ByteArray} (hs : sy s = true) : T.A (call s (T.na + 1)) = none := by
  cases hA : T.A (call s (T.na + 1)) with
  | none => rfl
  | some b =>
    obtain ⟨_, _, s', k, h1, h2, h3, e⟩ := h.al _ b hA
    have := (call_inj hs h1 e).2
    omega
theorem ae_zero {a : Int} (h : ae T a x = 0) : ck T a x = 0 ∧ T.na < 65536 := by
  unfold ae at h
  split at h
  · exact absurd h ‹_›
  · rename_i hc
    split at h
    · omega
    · rename_i h1; exact ⟨by simpa using hc, by omega⟩
theorem Ok.ali (h : Ok T) (a : Int) (x : ByteArray) : Ok (ali T a x) := by
  unfold EM.ali
  split
  · rename_i he
    obtain ⟨hc, hn⟩ := ae_zero he
    obtain ⟨c1, c2, c3⟩ := ck_zero hc
    have hs := h.st_sy c3
    have hz := h.kd_size c3
    refine ⟨h.ups, h.len, by show T.na + 1 ≤ 65536; omega, fun y b hb => ?_, fun p hp => ?_⟩
    · have hb' : (if y = nam T x then some (bs T a.toNat x) else T.A y) = some b := hb
      by_cases e : y = nam T x
      · rw [if_pos e] at hb'
        cases hb'
        exact ⟨h.bs_at (by omega), h.bs_nm (by omega), st T x, T.na + 1, hs, by omega, Nat.le_refl _, e⟩
      · rw [if_neg e] at hb'
        obtain ⟨r1, r2, s, k, q1, q2, q3, q4⟩ := h.al y b hb'
        exact ⟨r1, r2, s, k, q1, q2, by show k ≤ T.na + 1; omega, q4⟩
    · rcases h.pn p hp with hp | hp
      · exact .inl hp
      · refine .inr ?_
        show (if p.nm = nam T x then some (bs T a.toNat x) else T.A p.nm).isSome = true
        split
        · rfl
        · exact hp
  · exact h
end
end Go.Proofs.YtbomodendobnkaaGreat.EM
namespace Go.Proofs.YtbomodendobnkaaGreat.EM
/-- what a name means at a place; nothing, if that can't be asked -/
def fm (T : Tb) (a : Int) (x : ByteArray) : Int × Int := if ck T a x = 0 then mean T (bs T a.toNat x) else (0, 0)
/-- does one place bind both? -/
def sm (T : Tb) (a : Int) (x : ByteArray) (b : Int) (y : ByteArray) : Bool := decide (ck T a x = 0 ∧ ck T b y = 0 ∧ bs T a.toNat x = bs T b.toNat y)
theorem ck_or (T : Tb) (a : Int) (x : ByteArray) : ck T a x = 0 ∨ ck T a x = 2 ∨ ck T a x = 3 := by
  unfold ck; split
  · exact .inr (.inr rfl)
  · split
    · exact .inr (.inl rfl)
    · exact .inl rfl
end Go.Proofs.YtbomodendobnkaaGreat.EM

/- What the readers of package env give, on: what binds a name, the symbol that it comes from, a new table. -/
namespace Go.Proofs.YtbomodendobnkaaGreat
open Go.ChangeShapes Go.WideShapes Go.ChangeAt Go.RowKit

/-- the library's word MaxLen holds some number -/
def MTab (w : World) : Prop := ∃ m : Int, w.cell? ⟨0, 0, none⟩ = some (.int .i64 m)
theorem MTab.on {w w' : World} (h : MTab w) (k : Went w w') : MTab w' := by
  obtain ⟨m, h⟩ := h
  exact ⟨m, (Below.cell k (p := ⟨0, 0, none⟩) (World.block_lt_of_cell? w _ h)).trans h⟩

theorem new_any (w : World) :
    Calls Tryz.prog 8 #[] w fun e w' => e = .returned (.pointer (some ⟨w.heap.size, 0, none⟩)) ∧ w' = w.alloc (.cells #[.map none, .slice none 0 0, .map none] 65) := by
  go_enter Tryz.func8, Tryz.ntmps8
  go_wp2
  go_ret
  exact ⟨rfl, rfl⟩

set_option maxRecDepth 100000 in
theorem binds_any (p : Nat) (D : Nat → Prop) (T : EM.Tb) (hO : EM.Ok T) (a : Nat) (ha : a ≤ T.P.length) (x : ByteArray) (hx : x.size ≤ 1000) (w : World) (h : Tw w p D T) :
    Calls Tryz.prog 37 #[.pointer (some ⟨p, 0, none⟩), .int .i64 (a : Nat), .string x] w fun e w' => e = .returned (encB.V (EM.bs T a x)) ∧ Went w w' := by
  have hN := Lib.hid (fun w h => nearest_any p D T hO.ups (by have := hO.len; omega) a ha x w h)
  have hba := hO.bs_at (x := x) ha
  have h' := Lib.hid (h.below ((Below.refl _ w).alloc (Nat.le_refl _) (.cells #[.int .i64 0, .string ByteArray.empty] 85)))
  obtain ⟨⟨mt, v, ma, nt, h1, h2, h3, h4, h5, h6, h7, h8⟩, h9, h10⟩ := h'.out
  have c2 : (w.alloc (.cells #[.int .i64 0, .string ByteArray.empty] 85)).cell? ⟨p, 2, none⟩ = some ma := h1.cell 2
  have hlk := h5.look_ok Tryz.underlying63 Tryz.zeroB (b := x) (by unfold maxLen; omega)
  clear h h1 h2 h3 h4 h5 h6 h7 h8 h9 h10 hba
  unfold EM.bs
  obtain ⟨R, hR⟩ : ∃ R, EM.nr T.P x a = R := ⟨_, rfl⟩
  rw [hR] at hN ⊢
  clear hR
  obtain ⟨b0, hb0⟩ : ∃ b0, (T.A x).getD ⟨0, ByteArray.empty⟩ = b0 := ⟨_, rfl⟩
  rw [hb0] at hlk
  simp only [encB] at hlk
  cases hA : T.A x with
  | none =>
    rw [hA] at hlk hb0
    have e : (if R = 0 then ((none : Option EM.Bd).getD ⟨0, x⟩) else ⟨R, x⟩) = (⟨R, x⟩ : EM.Bd) := by
      by_cases hz : R = 0
      · rw [if_pos hz, hz]; rfl
      · rw [if_neg hz]
    rw [e]
    clear e
    simp only [Option.isSome_none] at hlk
    clear hb0 hA
    go_enter Tryz.func37, Tryz.ntmps37
    go_wp2_with (go_at_call 55; refine (hN.out _ h'.out).mono ?_; rintro e w' ⟨rfl, rfl⟩)
    exact bodyPost_ret (v := (.agg #[.int .i64 (R : Nat), .string x])) (by simp [results, Tryz.results37, go_sem]) rfl ⟨rfl, ((Below.refl _ w).alloc (Nat.le_refl _) _).alloc (by simp) _⟩
  | some b =>
    rw [hA] at hlk hb0
    obtain rfl : b = b0 := hb0
    simp only [Option.isSome_some] at hlk
    clear hA
    by_cases hz : R = 0
    · rw [if_pos hz]
      subst hz
      simp only [Option.getD_some]
      go_enter Tryz.func37, Tryz.ntmps37
      go_wp2_with (go_at_call 55; refine (hN.out _ h'.out).mono ?_; rintro e w' ⟨rfl, rfl⟩)
      exact bodyPost_ret (v := (.agg #[.int .i64 (b.at_ : Nat), .string b.nm])) (by simp [results, Tryz.results37, go_sem]) rfl ⟨rfl, ((Below.refl _ w).alloc (Nat.le_refl _) _).alloc (by simp) _⟩
    · rw [if_neg hz]
      have hz' : ¬ (R : Int) = 0 := by omega
      go_enter Tryz.func37, Tryz.ntmps37
      go_wp2_with (go_at_call 55; refine (hN.out _ h'.out).mono ?_; rintro e w' ⟨rfl, rfl⟩)
      exact bodyPost_ret (v := (.agg #[.int .i64 (R : Nat), .string x])) (by simp [results, Tryz.results37, go_sem]) rfl ⟨rfl, ((Below.refl _ w).alloc (Nat.le_refl _) _).alloc (by simp) _⟩
end Go.Proofs.YtbomodendobnkaaGreat

/- What the readers of package env give, on: whether two names mean the same. -/
namespace Go.Proofs.YtbomodendobnkaaGreat
open Go.ChangeShapes Go.WideShapes Go.ChangeAt Go.RowKit

theorem eql_bd (i j : Int) (s t : ByteArray) (w : World) :
    (binOp .eql 85 (.agg #[.int .i64 i, .string s]) (.agg #[.int .i64 j, .string t])).run Tryz.prog w = .ok (.bool (decide (i = j ∧ s = t))) w := by
  have u3 := Tryz.underlying3
  have u9 := Tryz.underlying9
  have a3 := Tryz.isAgg3
  have a9 := Tryz.isAgg9
  have hS : Tryz.prog.underlying 85 = some (.struct (Tryz.prog.fieldsOf 85)) := by kernel_rfl
  have hp : Tryz.prog.stoodInHeld 85 = false := by kernel_rfl
  rw [run_eql_struct, show (10000 : Nat) = 9999 + 1 from rfl, run_equalIn_agg w 9999 85 _ _ hS hp]
  simp only [Program.fieldsOf, Tryz.underlying85]
  by_cases h1 : i = j
  · subst h1
    by_cases h2 : s = t
    · subst h2
      go_simp
    · obtain ⟨e1, e2, e3⟩ := tl_ne h2
      rw [decide_eq_false (fun h => h2 h.2)]
      go_simp
  · have e1 : (i == j) = false := by simpa using h1
    rw [decide_eq_false (fun h => h1 h.1)]
    go_simp

theorem same_nil (a b : Int) (x y : ByteArray) (w : World) :
    Calls Tryz.prog 22 #[.pointer none, .int .i64 a, .string x, .int .i64 b, .string y] w fun e w' => e = .returned (.bool false) ∧ w = w' := by
  have hK := Lib.hid (fun w => check_nil a x w)
  rw [er_y (by omega)] at hK
  go_enter Tryz.func22, Tryz.ntmps22
  go_wp2_with (go_at_call 36; refine (hK.out _).mono ?_; rintro e w' ⟨rfl, rfl⟩)
  go_ret
  exact ⟨rfl, rfl⟩

set_option maxRecDepth 100000 in
theorem same_any (p : Nat) (D : Nat → Prop) (T : EM.Tb) (hO : EM.Ok T) (a b : Int) (x y : ByteArray) (hx : x.size ≤ 1000) (hy : y.size ≤ 1000) (w : World) (h : Tw w p D T) :
    Calls Tryz.prog 22 #[.pointer (some ⟨p, 0, none⟩), .int .i64 a, .string x, .int .i64 b, .string y] w fun e w' => e = .returned (.bool (EM.sm T a x b y)) ∧ Went w w' := by
  have hK := Lib.hid (fun w h => check_any p D T a x (by omega) w h)
  have hK2 := Lib.hid (fun w h => check_any p D T b y (by omega) w h)
  have h' := Lib.hid h
  clear h
  by_cases c1 : EM.ck T a x = 0
  · rw [c1, er_n] at hK
    by_cases c2 : EM.ck T b y = 0
    · rw [c2, er_n] at hK2
      obtain ⟨ha, ha2, -⟩ := EM.ck_zero c1
      obtain ⟨hb, hb2, -⟩ := EM.ck_zero c2
      obtain ⟨a, rfl⟩ := Int.eq_ofNat_of_zero_le ha
      obtain ⟨b, rfl⟩ := Int.eq_ofNat_of_zero_le hb
      have ha' : a ≤ T.P.length := by omega
      have hb' : b ≤ T.P.length := by omega
      have hB := Lib.hid (fun w h => binds_any p D T hO a ha' x hx w h)
      have hB2 := Lib.hid (fun w h => binds_any p D T hO b hb' y hy w h)
      have e : EM.sm T (a : Int) x (b : Int) y = decide (EM.bs T a x = EM.bs T b y) := by
        unfold EM.sm
        rw [c1, c2]
        simp
      rw [e]
      clear e c1 c2 ha ha2 hb hb2 ha' hb' hx hy hO
      obtain ⟨⟨i, s⟩, e1⟩ : ∃ q, EM.bs T a x = q := ⟨_, rfl⟩
      obtain ⟨⟨j, t⟩, e2⟩ : ∃ q, EM.bs T b y = q := ⟨_, rfl⟩
      rw [e1] at hB ⊢
      rw [e2] at hB2 ⊢
      clear e1 e2
      simp only [encB] at hB hB2
      have hq := fun w => eql_bd i j s t w
      have e3 : decide ((⟨i, s⟩ : EM.Bd) = ⟨j, t⟩) = decide ((i : Int) = j ∧ s = t) := by
        by_cases h : (i : Int) = j ∧ s = t
        · obtain ⟨h1, rfl⟩ := h
          obtain rfl : i = j := by omega
          simp
        · rw [decide_eq_false h, decide_eq_false (fun hh => h (by cases hh; exact ⟨rfl, rfl⟩))]
      rw [e3]
      obtain ⟨r, hr⟩ : ∃ r, decide ((i : Int) = j ∧ s = t) = r := ⟨_, rfl⟩
      rw [hr]
      rw [hr] at hq
      clear hr e3
      go_enter Tryz.func22, Tryz.ntmps22
      go_wp2_with (first
        | (go_at_call 36; (with_reducible refine (hK.out _ h'.out).mono ?_); rintro e w2 ⟨rfl, hb⟩; have hT2 := Lib.hid (h'.out.below hb); have hW2 := Lib.hid hb; clear hb)
        | (go_at_call 36; (with_reducible refine (hK2.out _ hT2.out).mono ?_); rintro e w3 ⟨rfl, hb⟩; have hT3 := Lib.hid (hT2.out.below hb); have hW3 := Lib.hid (Went.trans hW2.out hb); clear hb)
        | (go_at_call 37; (with_reducible refine (hB.out _ hT3.out).mono ?_); rintro e w4 ⟨rfl, hb⟩; have hT4 := Lib.hid (hT3.out.below hb); have hW4 := Lib.hid (Went.trans hW3.out hb); clear hb)
        | (go_at_call 37; (with_reducible refine (hB2.out _ hT4.out).mono ?_); rintro e w5 ⟨rfl, hb⟩; have hW5 := Lib.hid (Went.trans hW4.out hb); clear hb))
      go_ret
      exact ⟨rfl, hW5.out⟩
    · have e : EM.sm T a x b y = false := by unfold EM.sm; rw [decide_eq_false (fun h => c2 h.2.1)]
      rw [e]
      rw [er_y c2] at hK2
      obtain ⟨k, hk⟩ : ∃ k, EM.ck T b y = k := ⟨_, rfl⟩
      rw [hk] at hK2
      clear e c1 c2 hx hy hO hk
      go_enter Tryz.func22, Tryz.ntmps22
      go_wp2_with (first
        | (go_at_call 36; (with_reducible refine (hK.out _ h'.out).mono ?_); rintro e w2 ⟨rfl, hb⟩; have hT2 := Lib.hid (h'.out.below hb); have hW2 := Lib.hid hb; clear hb)
        | (go_at_call 36; (with_reducible refine (hK2.out _ hT2.out).mono ?_); rintro e w3 ⟨rfl, hb⟩; have hW3 := Lib.hid (Went.trans hW2.out hb); clear hb))
      go_ret
      exact ⟨rfl, hW3.out⟩
  · have e : EM.sm T a x b y = false := by unfold EM.sm; rw [decide_eq_false (fun h => c1 h.1)]
    rw [e]
    rw [er_y c1] at hK
    obtain ⟨k, hk⟩ : ∃ k, EM.ck T a x = k := ⟨_, rfl⟩
    rw [hk] at hK
    clear e c1 hx hy hO hk
    go_enter Tryz.func22, Tryz.ntmps22
    go_wp2_with (go_at_call 36; refine (hK.out _ h'.out).mono ?_; rintro e w2 ⟨rfl, hb⟩)
    go_ret
    exact ⟨rfl, hb⟩
end Go.Proofs.YtbomodendobnkaaGreat
