/- More of the plain mathematics of layer 7: what begins with a sharp. No dump is read here. -/
import Derived.Test.YthfelkcomhflnaaDoorQ4
import Derived.Test.YthfelkcomhflnaaDoorQ1
import Derived.Test.YthfelkcomhflnaaDoorQ18
namespace Go.Proofs.YthfelkcomhflnaaDoor.LM
open Go.RowKit

/-- does a token end there? -/
def en : List UInt8 → Bool
  | [] => true
  | c :: _ => dlm c.toNat
theorem en_wln (q : List UInt8) : en q = true ↔ wln q = 0 := by
  cases q with
  | nil => simp [en, wln]
  | cons c r => unfold en wln; cases h : dlm c.toNat <;> simp [h]
theorem en_drop (q : List UInt8) : en (q.drop (wln q)) = true := by
  induction q with
  | nil => rfl
  | cons c r ih =>
    unfold wln
    cases h : dlm c.toNat
    · simpa using ih
    · simpa [en] using h
theorem word_at : ∀ (v q : List UInt8), (∀ c ∈ v, dlm c.toNat = false) → ((q.take v.length = v ∧ en (q.drop v.length) = true) ↔ q.take (wln q) = v)
  | [], q, _ => by
    simp only [List.length_nil, List.take_zero, List.drop_zero, true_and]
    rw [en_wln]
    constructor
    · intro h; rw [h]; rfl
    · intro h
      have := congrArg List.length h
      rw [List.length_take, Nat.min_eq_left (wln_le q)] at this
      simpa using this
  | x :: v, q, h => by
    have hx := h x (by simp)
    have ih := fun q => word_at v q (fun c hc => h c (by simp [hc]))
    cases q with
    | nil => simp [wln]
    | cons c r =>
      simp only [List.length_cons, List.take_succ_cons, List.drop_succ_cons]
      unfold wln
      constructor
      · rintro ⟨h1, h2⟩
        injection h1 with h3 h4
        subst h3
        rw [hx]
        simp only [Bool.false_eq_true, if_false, List.take_succ_cons]
        rw [(ih r).1 ⟨h4, h2⟩]
      · cases hc : dlm c.toNat
        · simp only [Bool.false_eq_true, if_false, List.take_succ_cons]
          intro h1
          injection h1 with h3 h4
          have := (ih r).2 h4
          exact ⟨by rw [h3, this.1], this.2⟩
        · simp
def nm : Nat → List UInt8
  | 0 => sp1
  | 1 => sp2
  | 2 => sp3
  | _ => sp4
def cd : Nat → Int
  | 0 => 32
  | 1 => 10
  | 2 => 9
  | _ => 0
/-- does the name stand there, and end? -/
def nmAt (k : Nat) (q : List UInt8) : Prop := q.take (nm k).length = nm k ∧ en (q.drop (nm k).length) = true
theorem nm_plain (k : Nat) : ∀ c ∈ nm k, dlm c.toNat = false := by
  match k with
  | 0 => decide
  | 1 => decide
  | 2 => decide
  | _ + 3 => show ∀ c ∈ sp4, dlm c.toNat = false; decide
theorem nmAt_iff (k : Nat) (c : UInt8) (q : List UInt8) : nmAt k (c :: q) ↔ c :: q.take (wln q) = nm k := by
  unfold nmAt
  rw [word_at (nm k) (c :: q) (nm_plain k)]
  conv => lhs; unfold wln
  cases hc : dlm c.toNat
  · simp
  · simp only [if_true, List.take_zero]
    constructor
    · intro h
      exfalso
      have := congrArg List.length h
      match k with
      | 0 => simp [nm, sp1] at this
      | 1 => simp [nm, sp2] at this
      | 2 => simp [nm, sp3] at this
      | _ + 3 => simp [nm, sp4] at this
    · intro h
      have := nm_plain k c (by rw [← h]; simp)
      rw [hc] at this; cases this
theorem cho_nm (k : Nat) (hk : k < 4) : cho (nm k) = cd k := by
  match k, hk with
  | 0, _ => rfl
  | 1, _ => rfl
  | 2, _ => rfl
  | 3, _ => rfl
theorem cd_pos (k : Nat) : cd k ≠ -1 := by
  match k with
  | 0 => decide
  | 1 => decide
  | 2 => decide
  | _ + 3 => show (0 : Int) ≠ -1; decide
theorem chr_nm {k : Nat} (hk : k < 4) {q : List UInt8} (h : nmAt k q) : chr q = tok 11 (cd k) [] (2 + (nm k).length) := by
  cases q with
  | nil =>
    have := congrArg List.length h.1
    match k, hk with
    | 0, _ => simp [nm, sp1] at this
    | 1, _ => simp [nm, sp2] at this
    | 2, _ => simp [nm, sp3] at this
    | 3, _ => simp [nm, sp4] at this
  | cons c q =>
    have h1 := (nmAt_iff k c q).1 h
    have h2 := congrArg List.length h1
    rw [List.length_cons, List.length_take, Nat.min_eq_left (wln_le q)] at h2
    rw [chr_eq, h1, cho_nm k hk, if_neg (cd_pos k)]
    rw [show 3 + wln q = 2 + (nm k).length by omega]
theorem cho_one' (c : UInt8) : cho [c] = if (c.toNat : Int) ≤ 32 then (-1 : Int) else (c.toNat : Int) := by
  unfold cho
  rw [if_neg (by simp [sp1]), if_neg (by simp [sp2]), if_neg (by simp [sp3]), if_neg (by simp [sp4])]
theorem chr_one {c : UInt8} {q : List UInt8} (h : (32 : Int) < c.toNat) (he : en q = true) : chr (c :: q) = tok 11 c.toNat [] 3 := by
  rw [chr_eq, (en_wln q).1 he, List.take_zero, cho_one', if_neg (by omega), if_neg (by omega)]
theorem chr_none {q : List UInt8} (h1 : ∀ c r, q = c :: r → (32 : Int) < c.toNat → en r = false) (h2 : ∀ k, k < 4 → ¬ nmAt k q) : chr q = bad 6 := by
  cases q with
  | nil => rfl
  | cons c q =>
    have n0 : ¬ c :: q.take (wln q) = sp1 := fun h => h2 0 (by omega) ((nmAt_iff 0 c q).2 h)
    have n1 : ¬ c :: q.take (wln q) = sp2 := fun h => h2 1 (by omega) ((nmAt_iff 1 c q).2 h)
    have n2 : ¬ c :: q.take (wln q) = sp3 := fun h => h2 2 (by omega) ((nmAt_iff 2 c q).2 h)
    have n3 : ¬ c :: q.take (wln q) = sp4 := fun h => h2 3 (by omega) ((nmAt_iff 3 c q).2 h)
    rw [chr_eq, if_pos]
    unfold cho
    rw [if_neg n0, if_neg n1, if_neg n2, if_neg n3]
    cases hw : q.take (wln q) with
    | nil =>
      simp only
      have he : en q = true := by
        rw [en_wln]
        have := congrArg List.length hw
        rw [List.length_take, Nat.min_eq_left (wln_le q)] at this
        simpa using this
      have hc : ¬ (32 : Int) < c.toNat := fun hc => by
        have := h1 c q rfl hc
        rw [he] at this; cases this
      rw [if_pos (by omega)]
    | cons d r => rfl

theorem wrd_sharp {x : List UInt8} (h1 : x ≠ [102]) (h2 : x ≠ [116]) : wrd (35 :: x) = bad 6 := by
  unfold wrd
  rw [if_neg (by simp), if_neg (by simpa using h1), if_neg (by simpa using h2)]
  have e1 : FM.body (35 :: x) = 35 :: x := by simp [FM.body]
  have e2 : FM.okd (35 :: x) = false := by
    unfold FM.okd FM.digs
    simp only [List.all_cons]
    rw [show FM.dig 35 = false by decide]
    simp
  have e3 : sym (35 :: x) = false := by
    unfold sym
    simp only [List.all_cons]
    rw [show nmb ((35 : UInt8).toNat : Int) = false by decide]
    simp
  rw [e1, e2, e3]
  simp
theorem wln_sharp (q : List UInt8) : wln (35 :: q) = wln q + 1 := by
  conv => lhs; unfold wln
  rw [show dlm ((35 : UInt8).toNat : Int) = false by decide]; rfl
theorem scn_sharp {q : List UInt8} (h1 : hd q ≠ 40) (h2 : hd q ≠ 92) : scn (35 :: q) = wrd (35 :: q.take (wln q)) := by
  rw [scn_eq, if_neg (by decide), if_neg (by rintro ⟨_, h⟩; exact h1 h), if_neg (by rintro ⟨_, h⟩; exact h2 h), if_neg (by decide), if_neg (by decide), if_neg (by decide), if_neg (by decide), if_neg (by decide), wln_sharp, List.take_succ_cons]
theorem scn_char {q : List UInt8} : scn (35 :: 92 :: q) = chr q := by
  rw [scn_eq, if_neg (by decide), if_neg (by rintro ⟨_, h⟩; revert h; simp [hd]), if_pos ⟨by decide, by simp [hd]⟩]; rfl
theorem scn_flag {d : UInt8} {q : List UInt8} (hd' : d = 116 ∨ d = 102) (he : en q = true) : scn (35 :: d :: q) = tok 10 (if d = 116 then 1 else 0) [] 2 := by
  have hw := (en_wln q).1 he
  have e : wln (d :: q) = 1 := by
    unfold wln
    rcases hd' with rfl | rfl
    · rw [show dlm ((116 : UInt8).toNat : Int) = false by decide, hw]; rfl
    · rw [show dlm ((102 : UInt8).toNat : Int) = false by decide, hw]; rfl
  rw [scn_sharp (by rcases hd' with rfl | rfl <;> simp [hd]) (by rcases hd' with rfl | rfl <;> simp [hd]), e]
  rcases hd' with rfl | rfl <;> rfl
theorem scn_nothing {d : UInt8} {q : List UInt8} (h1 : d.toNat ≠ 40) (h2 : d.toNat ≠ 92) (h3 : d = 116 ∨ d = 102 → en q = false) : scn (35 :: d :: q) = bad 6 := by
  rw [scn_sharp (by simp [hd]; omega) (by simp [hd]; omega)]
  have key : ∀ x : UInt8, (x = 116 ∨ x = 102) → (d :: q).take (wln (d :: q)) ≠ [x] := by
    intro x hx h
    have hl := congrArg List.length h
    rw [List.length_take, Nat.min_eq_left (wln_le _)] at hl
    have hl' : wln (d :: q) = 1 := by simpa using hl
    rw [hl'] at h
    have hdx : d = x := by simpa using h
    have he := h3 (by rw [hdx]; exact hx)
    have : en q = true := by
      rw [en_wln]
      unfold wln at hl'
      split at hl'
      · omega
      · omega
    rw [he] at this; cases this
  exact wrd_sharp (key 102 (.inr rfl)) (key 116 (.inl rfl))
theorem scn_alone : scn [35] = bad 6 := rfl
end Go.Proofs.YthfelkcomhflnaaDoor.LM

/- What the document's own parser gives. -/
namespace Go.Proofs.YthfelkcomhflnaaDoor
open Go.ChangeShapes Go.WideShapes Go.ChangeAt Go.RowKit

/-- the digits so far: what they come to, or that it is too much -/
def Far (t : ByteArray) (k : Nat) (v : Int) (f : Bool) : Prop :=
  FM.digs (t.data.toList.take k) = true ∧ (f = false ∧ v = FM.val (t.data.toList.take k) ∨ f = true ∧ 1152921504606846980 ≤ FM.val (t.data.toList.take k))
theorem far_start (t : ByteArray) : Far t 0 0 false := ⟨by simp [FM.digs], .inl ⟨rfl, by simp [FM.val]⟩⟩
theorem far_step {t : ByteArray} {k : Nat} {v : Int} {f : Bool} (h : k < t.size) (H : Far t k v f) (h1 : 48 ≤ (t[k].toNat : Int)) (h2 : (t[k].toNat : Int) ≤ 57)
    (hv : v ≤ 115292150460684697) : Far t (k + 1) (v * 10 + ((t[k].toNat : Int) - 48)) f := by
  obtain ⟨hd, hf⟩ := H
  refine ⟨digs_yes_step h hd h1 h2, ?_⟩
  have e : FM.val (t.data.toList.take (k + 1)) = FM.val (t.data.toList.take k) * 10 + ((t[k].toNat : Int) - 48) := by
    rw [FM.take_snoc t k h, FM.val_snoc]
  rw [e]
  rcases hf with ⟨rfl, rfl⟩ | ⟨rfl, hf⟩
  · exact .inl ⟨rfl, rfl⟩
  · exact .inr ⟨rfl, by omega⟩
theorem far_over {t : ByteArray} {k : Nat} {v : Int} {f : Bool} (h : k < t.size) (H : Far t k v f) (h1 : 48 ≤ (t[k].toNat : Int)) (h2 : (t[k].toNat : Int) ≤ 57)
    (hv : 115292150460684697 < v) : Far t (k + 1) ((t[k].toNat : Int) - 48) true := by
  obtain ⟨hd, hf⟩ := H
  refine ⟨digs_yes_step h hd h1 h2, .inr ⟨rfl, ?_⟩⟩
  have e : FM.val (t.data.toList.take (k + 1)) = FM.val (t.data.toList.take k) * 10 + ((t[k].toNat : Int) - 48) := by
    rw [FM.take_snoc t k h, FM.val_snoc]
  rw [e]
  rcases hf with ⟨rfl, rfl⟩ | ⟨rfl, hf⟩ <;> omega
theorem far_not {t : ByteArray} {k : Nat} {v : Int} {f : Bool} (h : k < t.size) (_H : Far t k v f) (h1 : (t[k].toNat : Int) < 48 ∨ 57 < (t[k].toNat : Int)) : FM.okd t.data.toList = false := by
  unfold FM.okd; rw [digs_no_step h h1, Bool.and_false]
theorem far_end {t : ByteArray} {k : Nat} {v : Int} {f : Bool} (h : t.size ≤ k) (H : Far t k v f) (h1 : 1 ≤ t.size) (h2 : t.size ≤ 30) :
    FM.okd t.data.toList = true ∧ (f = false ∧ v = FM.val t.data.toList ∨ f = true ∧ 1152921504606846980 ≤ FM.val t.data.toList) := by
  obtain ⟨hd, hf⟩ := H
  rw [List.take_of_length_le (by rw [size_len]; exact h)] at hf
  refine ⟨?_, hf⟩
  unfold FM.okd; rw [digs_all h hd, size_len, decide_eq_true ⟨h1, h2⟩, Bool.true_and]

/-- the parser's answer behind the sign -/
def ends (ng : Bool) (t : ByteArray) : Int × Int := if FM.okd t.data.toList then FM.bd (if ng then -(FM.val t.data.toList) else FM.val t.data.toList) else (0, 6)
theorem ends_no {ng : Bool} {t : ByteArray} (h : FM.okd t.data.toList = false) : ends ng t = (0, 6) := by unfold ends; rw [h, if_neg (by simp)]
theorem ends_far {ng : Bool} {t : ByteArray} (h : FM.okd t.data.toList = true) (hv : 1152921504606846980 ≤ FM.val t.data.toList) : ends ng t = (0, 11) := by
  unfold ends; rw [h, if_pos rfl, FM.bd, FM.num_mk_no (by cases ng <;> simp <;> omega), if_neg (by simp)]
theorem ends_in {ng : Bool} {t : ByteArray} {v x : Int} (h : FM.okd t.data.toList = true) (hv : v = FM.val t.data.toList) (hx : (if ng then -v else v) = x) : ends ng t = FM.bd x := by
  unfold ends; rw [h, if_pos rfl, ← hv, hx]
theorem parse_ends (s : ByteArray) : FM.parse s.data.toList = ends (FM.neg s.data.toList) (bodyS s) := by
  unfold FM.parse ends FM.sv; rw [(body_data s).1]

end Go.Proofs.YthfelkcomhflnaaDoor
