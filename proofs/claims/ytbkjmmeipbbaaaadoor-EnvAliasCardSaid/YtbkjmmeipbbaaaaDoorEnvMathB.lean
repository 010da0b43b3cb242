/- The plain mathematics of layer 11, on: what stays right of a table, and what an alias means. No dump is read here. -/
import Derived.Test.YtbkjmmeipbbaaaaDoorEnvMath
import Derived.Lib.ItoaLen
import Derived.Lib.IndexBytes
namespace Go.Proofs.YtbkjmmeipbbaaaaDoor.EM
open Go.RowKit

theorem sy_size {x : ByteArray} (h : sy x = true) : 1 ≤ x.size ∧ x.size ≤ 60 := by
  unfold sy LM.sym at h
  simp only [Bool.and_eq_true, decide_eq_true_eq] at h
  have e : x.data.toList.length = x.size := rfl
  omega
theorem sy_no {x : ByteArray} (h : sy x = true) : (32 : UInt8) ∉ x.data.toList := by
  unfold sy LM.sym at h
  simp only [Bool.and_eq_true, List.all_eq_true] at h
  intro hm
  have := h.2.1 32 hm
  exact absurd this (by decide)
theorem cut_at : ∀ (l r : List UInt8), (32 : UInt8) ∉ l → Lib.index (l ++ 32 :: r) [32] = l.length
  | [], r, _ => by simp [Lib.index, List.isPrefixOf]
  | b :: l, r, h => by
    have h1 : ¬ (32 : UInt8) = b := fun e => h (by simp [e])
    have h2 : (32 : UInt8) ∉ l := fun e => h (by simp [e])
    have e1 : ((32 : UInt8) == b) = false := beq_eq_false_iff_ne.2 h1
    show (if ([32] : List UInt8).isPrefixOf (b :: (l ++ 32 :: r)) then (0 : Int) else if Lib.index (l ++ 32 :: r) [32] == -1 then -1 else Lib.index (l ++ 32 :: r) [32] + 1) = _
    rw [cut_at l r h2]
    rw [show ([32] : List UInt8).isPrefixOf (b :: (l ++ 32 :: r)) = false by simp [List.isPrefixOf, e1]]
    rw [if_neg (by decide), if_neg (by simp)]
    simp
theorem call_list (s : ByteArray) (k : Nat) : (call s k).data.toList = s.data.toList ++ 32 :: Lib.itoa (k : Int) := by
  unfold call sp
  rw [ByteArray.data_append, ByteArray.data_append]
  simp
theorem ba_ext {a b : ByteArray} (h : a.data.toList = b.data.toList) : a = b := by
  cases a; cases b; congr; exact Array.toList_inj.1 h
theorem pre_call {s : ByteArray} (h : sy s = true) (k : Nat) : pre (call s k) = s := by
  apply ba_ext
  unfold pre Lib.cut
  rw [call_list, cut_at _ _ (sy_no h), if_pos (by omega)]
  simp
theorem split_eq : ∀ {l l' r r' : List UInt8}, (32 : UInt8) ∉ l → (32 : UInt8) ∉ l' → l ++ 32 :: r = l' ++ 32 :: r' → l = l' ∧ r = r'
  | [], [], r, r', _, _, h => ⟨rfl, by simpa using h⟩
  | [], b :: l', r, r', _, h2, h => by simp at h; exact absurd (by simp [h.1]) h2
  | b :: l, [], r, r', h1, _, h => by simp at h; exact absurd (by simp [h.1]) h1
  | b :: l, c :: l', r, r', h1, h2, h => by
    simp only [List.cons_append, List.cons.injEq] at h
    obtain ⟨e1, e2⟩ := split_eq (fun e => h1 (by simp [e])) (fun e => h2 (by simp [e])) h.2
    exact ⟨by rw [h.1, e1], e2⟩
theorem itoa_nat (k : Nat) : Lib.itoa (k : Int) = Lib.decDigits k := by unfold Lib.itoa; rw [if_neg (by omega)]; simp
theorem call_inj {s s' : ByteArray} {k k' : Nat} (h : sy s = true) (h' : sy s' = true) (e : call s k = call s' k') : s = s' ∧ k = k' := by
  have e2 := congrArg (fun b => b.data.toList) e
  simp only [call_list] at e2
  obtain ⟨e3, e4⟩ := split_eq (sy_no h) (sy_no h') e2
  rw [itoa_nat, itoa_nat] at e4
  have v1 := (FM.dec_digs k).2
  have v2 := (FM.dec_digs k').2
  rw [e4, v2] at v1
  exact ⟨ba_ext e3, by omega⟩
theorem call_not {s : ByteArray} (k : Nat) : sy (call s k) = false := by
  cases h : sy (call s k) with
  | false => rfl
  | true =>
    have := sy_no h
    rw [call_list] at this
    exact absurd (by simp) this
theorem call_size {s : ByteArray} (h : s.size ≤ 60) {k : Nat} (hk : k ≤ 1000000) : (call s k).size ≤ 100 := by
  have e : (call s k).size = (call s k).data.toList.length := rfl
  have e1 : s.data.toList.length = s.size := rfl
  have := Lib.itoa_length_le (k : Int) (by omega) (by omega)
  rw [e, call_list, List.length_append, List.length_cons]
  omega

/-- what stays right of a table -/
structure Ok (T : Tb) : Prop where
  ups : Ups T.P
  len : T.P.length ≤ 65536
  na : T.na ≤ 65536
  al : ∀ x b, T.A x = some b → b.at_ ≤ T.P.length ∧ b.nm.size ≤ 1000 ∧ ∃ s k, sy s = true ∧ 1 ≤ k ∧ k ≤ T.na ∧ x = call s k
  pn : ∀ p ∈ T.P, sy p.nm = true ∨ (T.A p.nm).isSome = true

section
variable {T : Tb} {x : ByteArray} {a : Nat}
theorem Ok.bs_at (h : Ok T) (ha : a ≤ T.P.length) : (bs T a x).at_ ≤ T.P.length := by
  unfold bs
  split
  · cases hA : T.A x with
    | none => exact Nat.zero_le _
    | some b => exact (h.al x b hA).1
  · exact Nat.le_trans (nr_le h.ups x a) ha
theorem Ok.bs_nm (h : Ok T) (hx : x.size ≤ 1000) : (bs T a x).nm.size ≤ 1000 := by
  unfold bs
  split
  · cases hA : T.A x with
    | none => exact hx
    | some b => exact (h.al x b hA).2.1
  · exact hx
/-- where the name stands, if a place binds it -/
theorem ck_zero {a : Int} (h : ck T a x = 0) : 0 ≤ a ∧ a ≤ T.P.length ∧ kd T x ≠ 0 := by
  unfold ck at h
  split at h
  · omega
  · split at h
    · omega
    · rename_i h1 h2; exact ⟨by omega, by omega, h2⟩
theorem kd_cases (h : kd T x ≠ 0) : (sy x = true ∧ kd T x = 1) ∨ (sy x = false ∧ (T.A x).isSome = true ∧ kd T x = 2) := by
  unfold kd at h ⊢
  cases hs : sy x with
  | true => exact .inl ⟨rfl, rfl⟩
  | false =>
    rw [hs] at h
    cases ha : (T.A x).isSome with
    | true => exact .inr ⟨rfl, rfl, rfl⟩
    | false => rw [ha] at h; simp at h
theorem Ok.kd_size (h : Ok T) (hk : kd T x ≠ 0) : x.size ≤ 100 := by
  rcases kd_cases hk with ⟨hs, _⟩ | ⟨_, ha, _⟩
  · have := sy_size hs; omega
  · obtain ⟨b, hb⟩ := Option.isSome_iff_exists.1 ha
    obtain ⟨_, _, s, k, h1, h2, h3, rfl⟩ := h.al x b hb
    have := h.na
    exact call_size (by have := sy_size h1; omega) (by omega)
theorem Ok.st_sy (h : Ok T) (hk : kd T x ≠ 0) : sy (st T x) = true := by
  unfold st
  rcases kd_cases hk with ⟨hs, e⟩ | ⟨_, ha, e⟩
  · rw [e, if_neg (by omega), if_pos rfl]; exact hs
  · rw [e, if_pos rfl]
    obtain ⟨b, hb⟩ := Option.isSome_iff_exists.1 ha
    obtain ⟨_, _, s, k, h1, h2, h3, rfl⟩ := h.al x b hb
    rw [pre_call h1]; exact h1
theorem Ok.top (h : Ok T) (x : ByteArray) (k n : Int) : Ok (top T x k n) := by
  unfold EM.top
  split
  · exact ⟨h.ups, h.len, h.na, h.al, h.pn⟩
  · exact h
theorem Ok.ext (h : Ok T) (a : Int) (x : ByteArray) (k n : Int) : Ok (ext T a x k n) := by
  unfold EM.ext
  split
  · rename_i he
    unfold xe at he
    split at he
    · exact absurd he ‹_›
    · rename_i hc
      have hc : ck T a x = 0 := by simpa using hc
      split at he
      · omega
      · split at he
        · omega
        · rename_i h1 h2
          obtain ⟨c1, c2, c3⟩ := ck_zero hc
          refine ⟨h.ups.snoc (by show a.toNat ≤ _; omega), by simp; omega, h.na, fun y b hb => ?_, fun p hp => ?_⟩
          · obtain ⟨r1, r2⟩ := h.al y b hb
            exact ⟨by simp; omega, r2⟩
          · rcases List.mem_append.1 hp with hp | hp
            · exact h.pn p hp
            · simp at hp
              subst hp
              rcases kd_cases c3 with ⟨hs, _⟩ | ⟨_, hs, _⟩
              · exact .inl hs
              · exact .inr hs
  · exact h
theorem Ok.fresh (h : Ok T) {s : ByteArray} (hs : sy s = true) : T.A (call s (T.na + 1)) = none := by
  cases hA : T.A (call s (T.na + 1)) with
  | none => rfl
  | some b =>
    obtain ⟨_, _, s', k, h1, h2, h3, e⟩ := h.al _ b hA
    have := (call_inj hs h1 e).2
    omega
theorem ae_zero {a : Int} (h : ae T a x = 0) : ck T a x = 0 ∧ T.na < 65536 := by
  unfold ae at h
  split at h
  · exact absurd h ‹_›
  · rename_i hc
    split at h
    · omega
    · rename_i h1; exact ⟨by simpa using hc, by omega⟩
theorem Ok.ali (h : Ok T) (a : Int) (x : ByteArray) : Ok (ali T a x) := by
  unfold EM.ali
  split
  · rename_i he
    obtain ⟨hc, hn⟩ := ae_zero he
    obtain ⟨c1, c2, c3⟩ := ck_zero hc
    have hs := h.st_sy c3
    have hz := h.kd_size c3
    refine ⟨h.ups, h.len, by show T.na + 1 ≤ 65536; omega, fun y b hb => ?_, fun p hp => ?_⟩
    · have hb' : (if y = nam T x then some (bs T a.toNat x) else T.A y) = some b := hb
      by_cases e : y = nam T x
      · rw [if_pos e] at hb'
        cases hb'
        exact ⟨h.bs_at (by omega), h.bs_nm (by omega), st T x, T.na + 1, hs, by omega, Nat.le_refl _, e⟩
      · rw [if_neg e] at hb'
        obtain ⟨r1, r2, s, k, q1, q2, q3, q4⟩ := h.al y b hb'
        exact ⟨r1, r2, s, k, q1, q2, by show k ≤ T.na + 1; omega, q4⟩
    · rcases h.pn p hp with hp | hp
      · exact .inl hp
      · refine .inr ?_
        show (if p.nm = nam T x then some (bs T a.toNat x) else T.A p.nm).isSome = true
        split
        · rfl
        · exact hp
  · exact h
end
end Go.Proofs.YtbkjmmeipbbaaaaDoor.EM
namespace Go.Proofs.YtbkjmmeipbbaaaaDoor.EM
/-- what a name means at a place; nothing, if that can't be asked -/
def fm (T : Tb) (a : Int) (x : ByteArray) : Int × Int := if ck T a x = 0 then mean T (bs T a.toNat x) else (0, 0)
/-- does one place bind both? -/
def sm (T : Tb) (a : Int) (x : ByteArray) (b : Int) (y : ByteArray) : Bool := decide (ck T a x = 0 ∧ ck T b y = 0 ∧ bs T a.toNat x = bs T b.toNat y)
theorem ck_or (T : Tb) (a : Int) (x : ByteArray) : ck T a x = 0 ∨ ck T a x = 2 ∨ ck T a x = 3 := by
  unfold ck; split
  · exact .inr (.inr rfl)
  · split
    · exact .inr (.inl rfl)
    · exact .inl rfl
end Go.Proofs.YtbkjmmeipbbaaaaDoor.EM
