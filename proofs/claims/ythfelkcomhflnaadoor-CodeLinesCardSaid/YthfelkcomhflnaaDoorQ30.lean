/- The plain mathematics of layer 16: instructions' texts, and that unlike code has unlike text. No dump is read here. -/
import Derived.Test.YthfelkcomhflnaaDoorQ11
import Derived.Test.YthfelkcomhflnaaDoorQ1
namespace Go.Proofs.YthfelkcomhflnaaDoor.CD
open Go.RowKit RM

/-- what an operation is called -/
def nm (op : Int) : List UInt8 :=
  if op = 1 then [99, 111, 110, 115, 116] else if op = 2 then [108, 111, 99, 97, 108] else if op = 3 then [103, 108, 111, 98, 97, 108]
  else if op = 4 then [115, 101, 116] else if op = 5 then [97, 115, 115, 105, 103, 110] else if op = 6 then [100, 101, 102, 105, 110, 101]
  else if op = 7 then [117, 110, 108, 101, 115, 115] else if op = 8 then [106, 117, 109, 112] else if op = 9 then [99, 108, 111, 115, 117, 114, 101]
  else if op = 10 then [102, 114, 97, 109, 101] else if op = 11 then [112, 117, 115, 104] else if op = 12 then [99, 97, 108, 108]
  else if op = 13 then [116, 97, 105, 108] else if op = 14 then [114, 101, 116, 117, 114, 110] else []
/-- the text of what is quoted -/
def val (d : Dm) : List UInt8 := if d.k ≠ 0 then SM.txt false d else if d.n = 0 then [35, 118, 111, 105, 100] else [35, 117, 110, 100, 101, 102]
/-- what stands behind the operation -/
def opd (x : Ins) : List UInt8 :=
  if x.op = 1 then 32 :: val x.d
  else if x.op = 3 ∨ x.op = 5 ∨ x.op = 6 then 32 :: x.s
  else if x.op = 2 ∨ x.op = 4 ∨ x.op = 9 then 32 :: (Lib.itoa x.a ++ 32 :: Lib.itoa x.b)
  else if x.op = 11 ∨ x.op = 14 then []
  else 32 :: Lib.itoa x.a
def line (i : Nat) (x : Ins) : List UInt8 := Lib.itoa i ++ ([58, 32] ++ (nm x.op ++ (opd x ++ [10])))
def texts : Nat → List Ins → List UInt8
  | _, [] => []
  | i, x :: r => line i x ++ texts (i + 1) r
theorem texts_take : ∀ (l : List Ins) (i j : Nat) (x : Ins), l[j]? = some x → texts i (l.take (j + 1)) = texts i (l.take j) ++ line (i + j) x
  | [], i, j, x, h => by simp at h
  | y :: r, i, 0, x, h => by simp at h; subst h; simp [texts]
  | y :: r, i, j + 1, x, h => by
    have := texts_take r (i + 1) j x (by simpa using h)
    rw [List.take_succ_cons, List.take_succ_cons, texts, texts, this, List.append_assoc]
    congr 3
    omega

/-! ### words -/
theorem dig_nmb {c : UInt8} (h : FM.dig c = true) : LM.nmb c.toNat = true := by
  have := FM.dig_yes h
  unfold LM.nmb
  simp; omega
theorem digs_nmb {l : List UInt8} (h : FM.digs l = true) : ∀ c ∈ l, LM.nmb c.toNat = true := fun c hc => by
  unfold FM.digs at h
  exact dig_nmb (List.all_eq_true.1 h c hc)
theorem itoa_nmb (n : Int) : ∀ c ∈ Lib.itoa n, LM.nmb c.toNat = true := by
  intro c hc
  unfold Lib.itoa at hc
  split at hc
  · rcases List.mem_cons.1 hc with rfl | hc
    · decide
    · exact digs_nmb (FM.dec_digs _).1 c hc
  · exact digs_nmb (FM.dec_digs _).1 c hc
theorem itoa_ne (n : Int) (h0 : -9223372036854775808 ≤ n) (h1 : n ≤ 9223372036854775807) : Lib.itoa n ≠ [] := by
  unfold Lib.itoa
  split
  · simp
  · intro h
    have := FM.dec_len n.toNat (by omega)
    rw [h] at this
    simp at this
theorem itoa_num (n : Int) (h0 : -9223372036854775808 ≤ n) (h1 : n ≤ 9223372036854775807) : FM.okd (FM.body (Lib.itoa n)) = true ∧ FM.sv (Lib.itoa n) = n := by
  by_cases hn : n < 0
  · have d := FM.dec_digs n.natAbs
    have l := FM.dec_len n.natAbs (by omega)
    rw [Lib.itoa, if_pos hn]
    have eb : FM.body (45 :: Lib.decDigits n.natAbs) = Lib.decDigits n.natAbs := by simp [FM.body]
    have en : FM.neg (45 :: Lib.decDigits n.natAbs) = true := rfl
    rw [FM.sv, eb, en, if_pos rfl, d.2, FM.okd, d.1, decide_eq_true (by omega)]
    exact ⟨rfl, by omega⟩
  · have d := FM.dec_digs n.toNat
    have l := FM.dec_len n.toNat (by omega)
    rw [Lib.itoa, if_neg hn]
    obtain ⟨eb, en⟩ := FM.body_plain d.1
    rw [FM.sv, eb, en, FM.okd, d.1, decide_eq_true (by omega), if_neg (by simp), d.2]
    exact ⟨rfl, by omega⟩
theorem itoa_inj {n m : Int} (h0 : -9223372036854775808 ≤ n) (h1 : n ≤ 9223372036854775807) (k0 : -9223372036854775808 ≤ m) (k1 : m ≤ 9223372036854775807) (h : Lib.itoa n = Lib.itoa m) : n = m := by
  have e := (itoa_num n h0 h1).2
  rw [h, (itoa_num m k0 k1).2] at e
  exact e.symm
theorem sym_nmb {s : List UInt8} (h : LM.sym s = true) : s ≠ [] ∧ s ≠ [46] ∧ FM.okd (FM.body s) = false ∧ ∀ c ∈ s, LM.nmb c.toNat = true := by
  unfold LM.sym at h
  simp only [Bool.and_eq_true, decide_eq_true_eq, Bool.not_eq_true'] at h
  refine ⟨fun e => ?_, h.1.2.2, h.2.2, fun c hc => List.all_eq_true.1 h.2.1 c hc⟩
  rw [e] at h
  simp at h
/-- words, with what is no part of one behind them -/
theorem words {c e : UInt8} {u v : List UInt8} (hc : LM.nmb c.toNat = false) (he : LM.nmb e.toNat = false) : ∀ {s t : List UInt8}, (∀ x ∈ s, LM.nmb x.toNat = true) → (∀ x ∈ t, LM.nmb x.toNat = true) → s ++ c :: u = t ++ e :: v → s = t ∧ c :: u = e :: v
  | [], [], _, _, h => ⟨rfl, h⟩
  | [], y :: t, _, ht, h => by
    simp only [List.nil_append, List.cons_append, List.cons.injEq] at h
    have := ht y (by simp)
    rw [← h.1, hc] at this
    cases this
  | y :: s, [], hs, _, h => by
    simp only [List.nil_append, List.cons_append, List.cons.injEq] at h
    have := hs y (by simp)
    rw [h.1, he] at this
    cases this
  | y :: s, z :: t, hs, ht, h => by
    simp only [List.cons_append, List.cons.injEq] at h
    obtain ⟨rfl, h⟩ := h
    obtain ⟨rfl, h2⟩ := words hc he (fun x hx => hs x (by simp [hx])) (fun x hx => ht x (by simp [hx])) h
    exact ⟨rfl, h2⟩

/-! ### strings, characters -/
theorem es_head (c : UInt8) : ∃ b r, SM.es c = b :: r ∧ b ≠ 34 := by
  unfold SM.es
  split
  · exact ⟨_, _, rfl, by decide⟩
  split
  · exact ⟨_, _, rfl, by decide⟩
  split
  · exact ⟨_, _, rfl, by decide⟩
  · rename_i h; exact ⟨_, _, rfl, fun e => h (.inr e)⟩
theorem es_inj {c d : UInt8} {u v : List UInt8} (h : SM.es c ++ u = SM.es d ++ v) : c = d ∧ u = v := by
  unfold SM.es at h
  by_cases c1 : c = 10
  · rw [if_pos c1] at h
    by_cases d1 : d = 10
    · rw [if_pos d1] at h; simp at h; exact ⟨by rw [c1, d1], h⟩
    rw [if_neg d1] at h
    by_cases d2 : d = 9
    · rw [if_pos d2] at h; simp at h
    rw [if_neg d2] at h
    by_cases d3 : d = 92 ∨ d = 34
    · rw [if_pos d3] at h; simp at h
      rcases d3 with rfl | rfl
      · exact absurd h.1 (by decide)
      · exact absurd h.1 (by decide)
    · rw [if_neg d3] at h; simp at h; exact absurd (.inl h.1.symm) d3
  rw [if_neg c1] at h
  by_cases c2 : c = 9
  · rw [if_pos c2] at h
    by_cases d1 : d = 10
    · rw [if_pos d1] at h; simp at h
    rw [if_neg d1] at h
    by_cases d2 : d = 9
    · rw [if_pos d2] at h; simp at h; exact ⟨by rw [c2, d2], h⟩
    rw [if_neg d2] at h
    by_cases d3 : d = 92 ∨ d = 34
    · rw [if_pos d3] at h; simp at h
      rcases d3 with rfl | rfl
      · exact absurd h.1 (by decide)
      · exact absurd h.1 (by decide)
    · rw [if_neg d3] at h; simp at h; exact absurd (.inl h.1.symm) d3
  rw [if_neg c2] at h
  by_cases c3 : c = 92 ∨ c = 34
  · rw [if_pos c3] at h
    by_cases d1 : d = 10
    · rw [if_pos d1] at h; simp at h
      rcases c3 with rfl | rfl
      · exact absurd h.1 (by decide)
      · exact absurd h.1 (by decide)
    rw [if_neg d1] at h
    by_cases d2 : d = 9
    · rw [if_pos d2] at h; simp at h
      rcases c3 with rfl | rfl
      · exact absurd h.1 (by decide)
      · exact absurd h.1 (by decide)
    rw [if_neg d2] at h
    by_cases d3 : d = 92 ∨ d = 34
    · rw [if_pos d3] at h; simp at h; exact h
    · rw [if_neg d3] at h; simp at h; exact absurd (.inl h.1.symm) d3
  rw [if_neg c3] at h
  by_cases d1 : d = 10
  · rw [if_pos d1] at h; simp at h; exact absurd (.inl h.1) c3
  rw [if_neg d1] at h
  by_cases d2 : d = 9
  · rw [if_pos d2] at h; simp at h; exact absurd (.inl h.1) c3
  rw [if_neg d2] at h
  by_cases d3 : d = 92 ∨ d = 34
  · rw [if_pos d3] at h; simp at h; exact absurd (.inl h.1) c3
  · rw [if_neg d3] at h; simp at h; exact h
theorem esl_inj {u v : List UInt8} : ∀ {s t : List UInt8}, SM.esl s ++ 34 :: u = SM.esl t ++ 34 :: v → s = t ∧ u = v
  | [], [], h => by simp [SM.esl] at h; exact ⟨rfl, h⟩
  | [], d :: t, h => by
    obtain ⟨b, r, e, hb⟩ := es_head d
    rw [SM.esl, SM.esl, e] at h
    simp at h
    exact absurd h.1.symm hb
  | c :: s, [], h => by
    obtain ⟨b, r, e, hb⟩ := es_head c
    rw [SM.esl, SM.esl, e] at h
    simp at h
    exact absurd h.1 hb
  | c :: s, d :: t, h => by
    rw [SM.esl, SM.esl, List.append_assoc, List.append_assoc] at h
    obtain ⟨e1, h2⟩ := es_inj h
    obtain ⟨e2, h3⟩ := esl_inj h2
    exact ⟨by rw [e1, e2], h3⟩
/-- what may stand behind a datum -/
def dl (c : UInt8) : Bool := decide (c = 32 ∨ c = 41 ∨ c = 10)
theorem dl_nmb {c : UInt8} (h : dl c = true) : LM.nmb c.toNat = false := by
  have h := of_decide_eq_true h
  rcases h with rfl | rfl | rfl <;> decide
theorem ofNat_inj {n m : Int} (h0 : 0 ≤ n) (h1 : n ≤ 255) (k0 : 0 ≤ m) (k1 : m ≤ 255) (h : UInt8.ofNat n.toNat = UInt8.ofNat m.toNat) : n = m := by
  have e := congrArg UInt8.toNat h
  rw [UInt8.toNat_ofNat', UInt8.toNat_ofNat'] at e
  omega
/-- a character's text behind its first two bytes -/
def ch2 (n : Int) : List UInt8 := if n = 32 then [115, 112, 97, 99, 101] else if n = 10 then [110, 101, 119, 108, 105, 110, 101] else if n = 9 then [116, 97, 98] else if n = 0 then [110, 117, 108] else [UInt8.ofNat n.toNat]
theorem chr_ch2 {n : Int} (h0 : 0 ≤ n) (h1 : n ≤ 255) : SM.chr n = 35 :: 92 :: ch2 n := by
  unfold SM.chr ch2
  rw [if_neg (by omega)]
  repeat (split; rfl)
  rfl
theorem ch2_inj {n m : Int} {c e : UInt8} {u v : List UInt8} (h0 : 0 ≤ n) (h1 : n ≤ 255) (k0 : 0 ≤ m) (k1 : m ≤ 255) (hc : dl c = true) (he : dl e = true) (h : ch2 n ++ c :: u = ch2 m ++ e :: v) : n = m ∧ c :: u = e :: v := by
  unfold ch2 at h
  by_cases a1 : n = 32
  · rw [if_pos a1] at h
    by_cases b1 : m = 32
    · rw [if_pos b1] at h; simp at h; exact ⟨by omega, by simp [h]⟩
    rw [if_neg b1] at h
    by_cases b2 : m = 10
    · rw [if_pos b2] at h; simp at h
    rw [if_neg b2] at h
    by_cases b3 : m = 9
    · rw [if_pos b3] at h; simp at h
    rw [if_neg b3] at h
    by_cases b4 : m = 0
    · rw [if_pos b4] at h; simp at h
    rw [if_neg b4] at h
    simp at h
    have e9 := h.2.1; subst e9; exact absurd he (by decide)
  rw [if_neg a1] at h
  by_cases a2 : n = 10
  · rw [if_pos a2] at h
    by_cases b1 : m = 32
    · rw [if_pos b1] at h; simp at h
    rw [if_neg b1] at h
    by_cases b2 : m = 10
    · rw [if_pos b2] at h; simp at h; exact ⟨by omega, by simp [h]⟩
    rw [if_neg b2] at h
    by_cases b3 : m = 9
    · rw [if_pos b3] at h; simp at h
    rw [if_neg b3] at h
    by_cases b4 : m = 0
    · rw [if_pos b4] at h; simp at h
    rw [if_neg b4] at h
    simp at h
    have e9 := h.2.1; subst e9; exact absurd he (by decide)
  rw [if_neg a2] at h
  by_cases a3 : n = 9
  · rw [if_pos a3] at h
    by_cases b1 : m = 32
    · rw [if_pos b1] at h; simp at h
    rw [if_neg b1] at h
    by_cases b2 : m = 10
    · rw [if_pos b2] at h; simp at h
    rw [if_neg b2] at h
    by_cases b3 : m = 9
    · rw [if_pos b3] at h; simp at h; exact ⟨by omega, by simp [h]⟩
    rw [if_neg b3] at h
    by_cases b4 : m = 0
    · rw [if_pos b4] at h; simp at h
    rw [if_neg b4] at h
    simp at h
    have e9 := h.2.1; subst e9; exact absurd he (by decide)
  rw [if_neg a3] at h
  by_cases a4 : n = 0
  · rw [if_pos a4] at h
    by_cases b1 : m = 32
    · rw [if_pos b1] at h; simp at h
    rw [if_neg b1] at h
    by_cases b2 : m = 10
    · rw [if_pos b2] at h; simp at h
    rw [if_neg b2] at h
    by_cases b3 : m = 9
    · rw [if_pos b3] at h; simp at h
    rw [if_neg b3] at h
    by_cases b4 : m = 0
    · rw [if_pos b4] at h; simp at h; exact ⟨by omega, by simp [h]⟩
    rw [if_neg b4] at h
    simp at h
    have e9 := h.2.1; subst e9; exact absurd he (by decide)
  rw [if_neg a4] at h
  by_cases b1 : m = 32
  · rw [if_pos b1] at h; simp at h
    have e9 := h.2.1; subst e9; exact absurd hc (by decide)
  rw [if_neg b1] at h
  by_cases b2 : m = 10
  · rw [if_pos b2] at h; simp at h
    have e9 := h.2.1; subst e9; exact absurd hc (by decide)
  rw [if_neg b2] at h
  by_cases b3 : m = 9
  · rw [if_pos b3] at h; simp at h
    have e9 := h.2.1; subst e9; exact absurd hc (by decide)
  rw [if_neg b3] at h
  by_cases b4 : m = 0
  · rw [if_pos b4] at h; simp at h
    have e9 := h.2.1; subst e9; exact absurd hc (by decide)
  rw [if_neg b4] at h
  rw [List.cons_append, List.cons_append, List.nil_append, List.nil_append, List.cons.injEq] at h
  exact ⟨ofNat_inj h0 h1 k0 k1 h.1, h.2⟩
end Go.Proofs.YthfelkcomhflnaaDoor.CD
