/- The plain mathematics of layer 12: patterns, and what matches them. No dump is read here. -/
import Derived.Test.YtbomodendobnkaaGreatQ8
namespace Go.Proofs.YtbomodendobnkaaGreat.MM
open Go.RowKit RM
open SM (dr tk)

/-- what names are: 0 a variable, 1 an underscore, 2 an ellipsis, 3 a literal -/
abbrev NM := List UInt8 → Int
def put (S : NM) (b : List UInt8) (k : Int) : NM := fun x => if x = b then k else S x
def base (dots : List UInt8) : NM := put (put (fun _ => 0) [95] 1) dots 2
def nms (lits : List (List UInt8)) (dots : List UInt8) : NM := lits.foldl (fun S b => put S b 3) (base dots)
def cls (n : NM) (d : Dm) : Int := if d.k = 5 then n d.s else if d.k = 6 ∨ d.k = 7 ∨ d.k = 8 then 4 else 5
/-! ### rows -/
def cut (d : Dm) : Nat := if d.k = 7 ∧ 0 < d.is.len then d.is.len - 1 else d.is.len
def items (d : Dm) : Dl := tk d.is (cut d)
def last (d : Dm) : Dl := dr d.is (cut d)
/-- where the first ellipsis stands; behind all, if there is none -/
def ixe (n : NM) : Dl → Nat
  | .nil => 0
  | .cons k m s is r => if cls n ⟨k, m, s, is⟩ = 2 then 0 else ixe n r + 1
structure Row where
  f : Dl
  m : Dl
  b : Dl
  t : Dl
def Row.part (r : Row) : Nat → Dl
  | 0 => r.f
  | 1 => r.m
  | 2 => r.b
  | _ => r.t
def rowp (n : NM) (p : Dm) : Row :=
  if ixe n (items p) = 0 ∨ ixe n (items p) = (items p).len then ⟨items p, .nil, .nil, last p⟩
  else ⟨tk (items p) (ixe n (items p) - 1), tk (dr (items p) (ixe n (items p) - 1)) 1, dr (items p) (ixe n (items p) + 1), last p⟩
def takes (pk dk : Int) : Bool := decide (dk = pk) || (decide (pk = 7) && decide (dk = 6))
def behind (d : Dm) (e : Nat) : Dm := if d.k = 7 ∧ e + 1 = d.is.len then (d.is.at_ e).getD d else ⟨d.k, 0, [], dr d.is e⟩
/-- where what the ellipsis takes ends -/
def mid (r : Row) (d : Dm) : Nat := if r.m.len = 0 then r.f.len else (items d).len - r.b.len
def lay (r : Row) (k : Int) (d : Dm) : Row × Bool :=
  if takes k d.k = false ∨ (items d).len < r.f.len + r.b.len then (⟨.nil, .nil, .nil, .nil⟩, false)
  else if k = 7 then (⟨tk (items d) r.f.len, tk (dr (items d) r.f.len) (mid r d - r.f.len), tk (dr (items d) (mid r d)) r.b.len, .one (behind d (mid r d + r.b.len))⟩, true)
  else (⟨tk (items d) r.f.len, tk (dr (items d) r.f.len) (mid r d - r.f.len), tk (dr (items d) (mid r d)) r.b.len, .nil⟩, decide (mid r d + r.b.len = (items d).len))
/-! ### does a datum match? -/
def allp (M : Dm → Bool) : Dl → Bool
  | .nil => true
  | .cons k n s is r => M ⟨k, n, s, is⟩ && allp M r
def all2 (M : Dm → Dm → Bool) : Dl → Dl → Bool
  | .nil, .nil => true
  | .cons k n s is r, .cons k' n' s' is' r' => M ⟨k, n, s, is⟩ ⟨k', n', s', is'⟩ && all2 M r r'
  | _, _ => false
def mtr (M : Dm → Dm → Bool) (n : NM) (p d : Dm) : Bool :=
  (lay (rowp n p) p.k d).2 && (allp (fun x => allp (M x) (lay (rowp n p) p.k d).1.m) (rowp n p).m
    && (all2 M (rowp n p).f (lay (rowp n p) p.k d).1.f && (all2 M (rowp n p).b (lay (rowp n p) p.k d).1.b && all2 M (rowp n p).t (lay (rowp n p) p.k d).1.t)))
/-- Q: do two names mean the same? -/
def mt (n : NM) (Q : List UInt8 → List UInt8 → Bool) : Nat → Dm → Dm → Bool
  | 0, _, _ => false
  | f + 1, p, d => if cls n p = 4 then mtr (mt n Q f) n p d else if cls n p = 3 then decide (d.k = 5) && Q p.s d.s else if cls n p = 5 then decide (d.k = p.k) && (decide (d.n = p.n) && decide (d.s = p.s)) else true
/-! ### what variables stand for -/
inductive Bl where
  | nil : Bl
  | cons : List UInt8 → Int → Dm → Bl → Bl → Bl
structure Bm where
  nm : List UInt8
  dp : Int
  d : Dm
  ks : Bl
def Bl.len : Bl → Nat
  | .nil => 0
  | .cons _ _ _ _ r => r.len + 1
def Bl.one (b : Bm) : Bl := .cons b.nm b.dp b.d b.ks .nil
def Bl.app : Bl → Bl → Bl
  | .nil, e => e
  | .cons a b c d r, e => .cons a b c d (r.app e)
def Bl.snoc (l : Bl) (b : Bm) : Bl := l.app (.one b)
def Bl.at_ : Bl → Nat → Option Bm
  | .nil, _ => none
  | .cons a b c d _, 0 => some ⟨a, b, c, d⟩
  | .cons _ _ _ _ r, i + 1 => r.at_ i
theorem Bl.at_some : ∀ (d : Bl) (i : Nat), i < d.len → ∃ x, d.at_ i = some x
  | .nil, i, h => by simp [Bl.len] at h
  | .cons a b c d r, 0, h => ⟨⟨a, b, c, d⟩, rfl⟩
  | .cons a b c d r, i + 1, h => Bl.at_some r i (by simp only [Bl.len] at h; omega)
theorem Bl.app_nil : ∀ l : Bl, l.app .nil = l
  | .nil => rfl
  | .cons a b c d r => by rw [Bl.app, Bl.app_nil r]
theorem Bl.app_app : ∀ a b c : Bl, (a.app b).app c = a.app (b.app c)
  | .nil, b, c => rfl
  | .cons _ _ _ _ r, b, c => by rw [Bl.app, Bl.app, Bl.app, Bl.app_app r]
theorem Bl.len_app : ∀ a b : Bl, (a.app b).len = a.len + b.len
  | .nil, b => by simp [Bl.app, Bl.len]
  | .cons _ _ _ _ r, b => by rw [Bl.app, Bl.len, Bl.len, Bl.len_app r]; omega
theorem Bl.len_snoc (l : Bl) (d : Bm) : (l.snoc d).len = l.len + 1 := by rw [Bl.snoc, Bl.len_app]; rfl
def d0 : Dm := ⟨0, 0, [], .nil⟩
/-- a variable: its name, its depth, and what it stands for in a datum that matches -/
structure Var where
  nm : List UInt8
  dp : Nat
  fd : Dm → Option Bm
def kidsOf (F : Dm → Option Bm) : Dl → Option Bl
  | .nil => some .nil
  | .cons k n s is r => match F ⟨k, n, s, is⟩ with
    | none => none
    | some b => (kidsOf F r).map fun ks => .cons b.nm b.dp b.d b.ks ks
def whole (nm : List UInt8) : Var := ⟨nm, 0, fun d => some ⟨nm, 0, d, .nil⟩⟩
def oneF (look : Dm → Dl) (i : Nat) (F : Dm → Option Bm) : Dm → Option Bm := fun d => match (look d).at_ i with | some x => F x | none => none
def allF (look : Dm → Dl) (nm : List UInt8) (dp : Int) (F : Dm → Option Bm) : Dm → Option Bm := fun d => (kidsOf F (look d)).map fun ks => ⟨nm, dp, d0, ks⟩
def inOne (look : Dm → Dl) (i : Nat) (v : Var) : Var := ⟨v.nm, v.dp, oneF look i v.fd⟩
def inAll (look : Dm → Dl) (v : Var) : Var := ⟨v.nm, v.dp + 1, allF look v.nm (v.dp + 1) v.fd⟩
/-- the variables of some items, from the i-th on -/
def rowVars (V : Dm → Option (List Var)) (K : Nat → Var → Var) : Nat → Dl → Option (List Var)
  | _, .nil => some []
  | i, .cons k n s is r => match V ⟨k, n, s, is⟩ with
    | none => none
    | some vs => (rowVars V K (i + 1) r).map fun l => vs.map (K i) ++ l
def lookAt (r : Row) (k : Int) (part : Nat) : Dm → Dl := fun d => (lay r k d).1.part part
def kAt (r : Row) (k : Int) (part : Nat) : Nat → Var → Var := fun i v => if part = 1 then inAll (lookAt r k part) v else inOne (lookAt r k part) i v
/-- those of the parts from one on; so many are left -/
def parts (V : Dm → Option (List Var)) (r : Row) (k : Int) : Nat → Nat → Option (List Var)
  | 0, _ => some []
  | m + 1, j => match rowVars V (kAt r k j) 0 (r.part j) with
    | none => none
    | some a => (parts V r k m (j + 1)).map fun l => a ++ l
def vars (n : NM) : Nat → Dm → Option (List Var)
  | 0, _ => none
  | f + 1, p => if cls n p = 2 then none else if cls n p = 0 then some [whole p.s] else if cls n p = 4 then parts (vars n f) (rowp n p) p.k 4 0 else some []
def apart (vs : List Var) : Bool := decide ((vs.map Var.nm).Nodup)
def fits (d : Dm) : Bool := decide (SM.sz d.is + 1 ≤ 4000) && decide (SM.hi d.is + 1 ≤ 64)
def pat (n : NM) (p : Dm) : Option (List Var) := if fits p then (match vars n 64 p with | none => none | some vs => if apart vs then some vs else none) else none
/-- what all variables stand for -/
def bnd : List Var → Dm → Option Bl
  | [], _ => some .nil
  | v :: r, d => match v.fd d with
    | none => none
    | some b => (bnd r d).map fun l => .cons b.nm b.dp b.d b.ks l
/-! ### parts of data -/
theorem at_tk : ∀ (d : Dl) (i j : Nat), j < i → (tk d i).at_ j = d.at_ j
  | .nil, 0, _, h => by omega
  | .nil, i + 1, _, _ => rfl
  | .cons k n s is r, 0, _, h => by omega
  | .cons k n s is r, i + 1, 0, _ => rfl
  | .cons k n s is r, i + 1, j + 1, h => at_tk r i j (by omega)
theorem at_dr : ∀ (d : Dl) (i j : Nat), (dr d i).at_ j = d.at_ (i + j)
  | d, 0, j => by rw [SM.dr_zero, Nat.zero_add]
  | .nil, i + 1, j => by
    have : i + 1 + j = (i + j) + 1 := by omega
    rw [this]; rfl
  | .cons k n s is r, i + 1, j => by
    have : i + 1 + j = (i + j) + 1 := by omega
    rw [this]
    exact at_dr r i j
theorem at_lt : ∀ {d : Dl} {i : Nat} {x : Dm}, d.at_ i = some x → i < d.len
  | .nil, _, _, h => by simp [Dl.at_] at h
  | .cons _ _ _ _ _, 0, _, _ => by simp [Dl.len]
  | .cons k n s is r, i + 1, x, h => by have := at_lt (show r.at_ i = some x from h); simp only [Dl.len]; omega
theorem cut_le (d : Dm) : cut d ≤ d.is.len := by unfold cut; split <;> omega
theorem items_len (d : Dm) : (items d).len = cut d := SM.tk_len _ _ (cut_le d)
theorem tk_dr_len (l : Dl) (a n : Nat) (h : a + n ≤ l.len) : (tk (dr l a) n).len = n := SM.tk_len _ _ (by rw [SM.dr_len]; omega)
theorem ixe_le (n : NM) : ∀ l, ixe n l ≤ l.len
  | .nil => Nat.le_refl _
  | .cons k m s is r => by
    unfold ixe
    split
    · exact Nat.zero_le _
    · have := ixe_le n r; simp only [Dl.len]; omega
theorem ixe_hit (n : NM) : ∀ (l : Dl) (x : Dm), l.at_ (ixe n l) = some x → cls n x = 2
  | .nil, x, h => by simp [Dl.at_] at h
  | .cons k m s is r, x, h => by
    unfold ixe at h
    split at h
    · rename_i hh
      simp only [Dl.at_, Option.some.injEq] at h
      subst h; exact hh
    · exact ixe_hit n r x h
theorem ixe_low (n : NM) : ∀ (l : Dl) (i : Nat) (x : Dm), i < ixe n l → l.at_ i = some x → cls n x ≠ 2
  | .nil, i, x, h, _ => by simp [ixe] at h
  | .cons k m s is r, 0, x, h, hx => by
    unfold ixe at h
    split at h
    · omega
    · rename_i hh
      simp only [Dl.at_, Option.some.injEq] at hx
      subst hx; exact hh
  | .cons k m s is r, i + 1, x, h, hx => by
    unfold ixe at h
    split at h
    · omega
    · exact ixe_low n r i x (by omega) hx
theorem ixe_eq (n : NM) : ∀ (l : Dl) (i : Nat), (∀ j x, j < i → l.at_ j = some x → cls n x ≠ 2) → (i = l.len ∨ ∃ x, l.at_ i = some x ∧ cls n x = 2) → ixe n l = i := by
  intro l i h1 h2
  rcases Nat.lt_trichotomy (ixe n l) i with h | h | h
  · obtain ⟨x, hx⟩ := l.at_some (ixe n l) (by
      rcases h2 with h2 | ⟨x, hx, _⟩
      · omega
      · exact Nat.lt_trans h (at_lt hx))
    exact absurd (ixe_hit n l x hx) (h1 _ x h hx)
  · exact h
  · rcases h2 with h2 | ⟨x, hx, hc⟩
    · have := ixe_le n l; omega
    · exact absurd hc (ixe_low n l i x h hx)
/-! ### what a variable of a pattern stands for, in a datum that matches -/
theorem allp_at {M : Dm → Bool} : ∀ {d : Dl} {i : Nat} {x : Dm}, allp M d = true → d.at_ i = some x → M x = true
  | .nil, _, _, _, hx => by simp [Dl.at_] at hx
  | .cons k n s is r, 0, x, h, hx => by
    simp only [Dl.at_, Option.some.injEq] at hx
    subst hx
    simp only [allp, Bool.and_eq_true] at h
    exact h.1
  | .cons k n s is r, i + 1, x, h, hx => by
    simp only [allp, Bool.and_eq_true] at h
    exact allp_at h.2 (show r.at_ i = some x from hx)
theorem all2_at {M : Dm → Dm → Bool} : ∀ {d e : Dl} {i : Nat} {x : Dm}, all2 M d e = true → d.at_ i = some x → ∃ y, e.at_ i = some y ∧ M x y = true
  | .nil, _, _, _, _, hx => by simp [Dl.at_] at hx
  | .cons _ _ _ _ _, .nil, _, _, h, _ => by simp [all2] at h
  | .cons k n s is r, .cons k' n' s' is' r', 0, x, h, hx => by
    simp only [Dl.at_, Option.some.injEq] at hx
    subst hx
    simp only [all2, Bool.and_eq_true] at h
    exact ⟨_, rfl, h.1⟩
  | .cons k n s is r, .cons k' n' s' is' r', i + 1, x, h, hx => by
    simp only [all2, Bool.and_eq_true] at h
    obtain ⟨y, hy, hm⟩ := all2_at (i := i) h.2 (show r.at_ i = some x from hx)
    exact ⟨y, hy, hm⟩
theorem all2_len {M : Dm → Dm → Bool} : ∀ {d e : Dl}, all2 M d e = true → d.len = e.len
  | .nil, .nil, _ => rfl
  | .nil, .cons _ _ _ _ _, h => by simp [all2] at h
  | .cons _ _ _ _ _, .nil, h => by simp [all2] at h
  | .cons k n s is r, .cons k' n' s' is' r', h => by
    simp only [all2, Bool.and_eq_true] at h
    simp only [Dl.len, all2_len h.2]
theorem rowVars_mem {V : Dm → Option (List Var)} {K : Nat → Var → Var} : ∀ {d : Dl} {i : Nat} {vs : List Var}, rowVars V K i d = some vs → ∀ v ∈ vs, ∃ j x l u, d.at_ j = some x ∧ V x = some l ∧ u ∈ l ∧ v = K (i + j) u
  | .nil, i, vs, h, v, hv => by
    simp only [rowVars, Option.some.injEq] at h
    subst h
    simp at hv
  | .cons k n s is r, i, vs, h, v, hv => by
    unfold rowVars at h
    split at h
    · cases h
    · rename_i l hl
      simp only [Option.map_eq_some_iff] at h
      obtain ⟨l2, h2, rfl⟩ := h
      rcases List.mem_append.1 hv with hv | hv
      · obtain ⟨u, hu, rfl⟩ := List.mem_map.1 hv
        exact ⟨0, _, l, u, rfl, hl, hu, rfl⟩
      · obtain ⟨j, x, l3, u, h3, h4, h5, h6⟩ := rowVars_mem h2 v hv
        exact ⟨j + 1, x, l3, u, h3, h4, h5, by rw [h6]; congr 1; omega⟩
theorem parts_mem {V : Dm → Option (List Var)} {r : Row} {k : Int} : ∀ {m j : Nat} {vs : List Var}, parts V r k m j = some vs → ∀ v ∈ vs, ∃ q l, j ≤ q ∧ q < j + m ∧ rowVars V (kAt r k q) 0 (r.part q) = some l ∧ v ∈ l
  | 0, j, vs, h, v, hv => by
    simp only [parts, Option.some.injEq] at h
    subst h
    simp at hv
  | m + 1, j, vs, h, v, hv => by
    unfold parts at h
    split at h
    · cases h
    · rename_i a ha
      simp only [Option.map_eq_some_iff] at h
      obtain ⟨l2, h2, rfl⟩ := h
      rcases List.mem_append.1 hv with hv | hv
      · exact ⟨j, a, Nat.le_refl _, by omega, ha, hv⟩
      · obtain ⟨q, l, h3, h4, h5, h6⟩ := parts_mem h2 v hv
        exact ⟨q, l, by omega, by omega, h5, h6⟩
def Fine (v : Var) (d : Dm) : Prop := ∃ b, v.fd d = some b ∧ b.nm = v.nm ∧ b.dp = v.dp
theorem kidsOf_fine {F : Dm → Option Bm} : ∀ {d : Dl}, (∀ i x, d.at_ i = some x → ∃ b, F x = some b) → ∃ ks, kidsOf F d = some ks ∧ ks.len = d.len
  | .nil, _ => ⟨.nil, rfl, rfl⟩
  | .cons k n s is r, h => by
    obtain ⟨b, hb⟩ := h 0 _ rfl
    obtain ⟨ks, hk, hl⟩ := kidsOf_fine (d := r) (fun i x hx => h (i + 1) x hx)
    refine ⟨.cons b.nm b.dp b.d b.ks ks, ?_, by simp only [Bl.len, Dl.len, hl]⟩
    unfold kidsOf
    rw [hb, hk]; rfl
theorem fine_any (n : NM) (Q : List UInt8 → List UInt8 → Bool) : ∀ (f : Nat) (p d : Dm) (vs : List Var), mt n Q f p d = true → vars n f p = some vs → ∀ v ∈ vs, Fine v d
  | 0, _, _, _, h, _, _, _ => by simp [mt] at h
  | f + 1, p, d, vs, h, hv, v, hm => by
    unfold vars at hv
    split at hv
    · cases hv
    split at hv
    · simp only [Option.some.injEq] at hv
      subst hv
      simp only [List.mem_singleton] at hm
      subst hm
      exact ⟨_, rfl, rfl, rfl⟩
    split at hv
    · rename_i h4
      unfold mt at h
      rw [if_pos h4] at h
      unfold mtr at h
      simp only [Bool.and_eq_true] at h
      obtain ⟨-, hM, hF, hB, hT⟩ := h
      obtain ⟨q, l, -, hq, hr, hl⟩ := parts_mem hv v hm
      obtain ⟨j, x, l2, u, hx, hl2, hu, rfl⟩ := rowVars_mem hr v hl
      rw [Nat.zero_add]
      by_cases q1 : q = 1
      · subst q1
        have hx' : (rowp n p).m.at_ j = some x := hx
        have hall := allp_at hM hx'
        obtain ⟨ks, hk, -⟩ := kidsOf_fine (F := u.fd) (d := lookAt (rowp n p) p.k 1 d) (fun i y hy => by
          obtain ⟨b, hb, -⟩ := fine_any n Q f x y l2 (allp_at hall hy) hl2 u hu
          exact ⟨b, hb⟩)
        unfold kAt
        rw [if_pos rfl]
        refine ⟨⟨u.nm, u.dp + 1, d0, ks⟩, ?_, rfl, ?_⟩
        · show (kidsOf u.fd (lookAt (rowp n p) p.k 1 d)).map _ = _
          rw [hk]; rfl
        · simp [inAll]
      · have hone : ∃ y, (lookAt (rowp n p) p.k q d).at_ j = some y ∧ mt n Q f x y = true := by
          match q, q1, hq, hx with
          | 0, _, _, hx => exact all2_at hF hx
          | 2, _, _, hx => exact all2_at hB hx
          | 3, _, _, hx => exact all2_at hT hx
        obtain ⟨y, hy, hmy⟩ := hone
        obtain ⟨b, hb, hn, hd⟩ := fine_any n Q f x y l2 hmy hl2 u hu
        unfold kAt
        rw [if_neg q1]
        refine ⟨b, ?_, hn, hd⟩
        show oneF (lookAt (rowp n p) p.k q) j u.fd d = _
        unfold oneF
        rw [hy]
        exact hb
    · simp only [Option.some.injEq] at hv
      subst hv
      simp at hm
theorem bnd_fine : ∀ {vs : List Var} {d : Dm}, (∀ v ∈ vs, Fine v d) → ∃ l, bnd vs d = some l ∧ l.len = vs.length ∧ ∀ (i : Nat) (v : Var), vs[i]? = some v → ∃ b, l.at_ i = some b ∧ b.nm = v.nm ∧ b.dp = v.dp
  | [], d, _ => ⟨.nil, rfl, rfl, fun i v h => by simp at h⟩
  | v :: r, d, h => by
    obtain ⟨b, hb, hn, hd⟩ := h v (by simp)
    obtain ⟨l, hl, hlen, hat⟩ := bnd_fine (vs := r) (d := d) (fun u hu => h u (by simp [hu]))
    refine ⟨.cons b.nm b.dp b.d b.ks l, ?_, by simp only [Bl.len, List.length_cons, hlen], fun i u hu => ?_⟩
    · unfold bnd
      rw [hb, hl]; rfl
    · cases i with
      | zero =>
        simp only [List.getElem?_cons_zero, Option.some.injEq] at hu
        subst hu
        exact ⟨b, rfl, hn, hd⟩
      | succ i => exact hat i u (by simpa using hu)
/-! ### how many variables there are, and how deep -/
theorem vars_dp (n : NM) : ∀ (f : Nat) (p : Dm) (vs : List Var), vars n f p = some vs → ∀ v ∈ vs, v.dp ≤ f
  | 0, _, _, hv, _, _ => by simp [vars] at hv
  | f + 1, p, vs, hv, v, hm => by
    unfold vars at hv
    split at hv
    · cases hv
    split at hv
    · simp only [Option.some.injEq] at hv
      subst hv
      simp only [List.mem_singleton] at hm
      subst hm
      exact Nat.zero_le _
    split at hv
    · obtain ⟨q, l, -, hq, hr, hl⟩ := parts_mem hv v hm
      obtain ⟨j, x, l2, u, hx, hl2, hu, rfl⟩ := rowVars_mem hr v hl
      have := vars_dp n f x l2 hl2 u hu
      unfold kAt
      split <;> simp only [inAll, inOne] <;> omega
    · simp only [Option.some.injEq] at hv
      subst hv
      simp at hm
theorem rowVars_len {V : Dm → Option (List Var)} {K : Nat → Var → Var} : ∀ {d : Dl} {i : Nat} {vs : List Var}, (∀ j x l, d.at_ j = some x → V x = some l → l.length ≤ SM.sz x.is + 1) → rowVars V K i d = some vs → vs.length ≤ SM.sz d
  | .nil, i, vs, _, h => by
    simp only [rowVars, Option.some.injEq] at h
    subst h
    simp
  | .cons k n s is r, i, vs, hV, h => by
    unfold rowVars at h
    split at h
    · cases h
    · rename_i l hl
      simp only [Option.map_eq_some_iff] at h
      obtain ⟨l2, h2, rfl⟩ := h
      have h1 := hV 0 _ l rfl hl
      have h3 := rowVars_len (fun j x l hx => hV (j + 1) x l hx) h2
      simp only [List.length_append, List.length_map, SM.sz] at h1 ⊢
      omega
theorem sz_tk_dr : ∀ (d : Dl) (i : Nat), SM.sz (tk d i) + SM.sz (dr d i) = SM.sz d
  | d, 0 => by rw [SM.dr_zero, show tk d 0 = .nil by cases d <;> rfl]; simp [SM.sz]
  | .nil, i + 1 => by simp [tk, dr, SM.sz]
  | .cons k n s is r, i + 1 => by
    have := sz_tk_dr r i
    simp only [tk, dr, SM.sz]
    omega
theorem dr_dr (d : Dl) (i j : Nat) : dr (dr d i) j = dr d (i + j) := by
  induction d generalizing i j with
  | nil =>
    have e : ∀ i, dr .nil i = .nil := fun i => by cases i <;> rfl
    rw [e, e, e]
  | cons k n s is r _ ih =>
    cases i with
    | zero => rw [SM.dr_zero, Nat.zero_add]
    | succ i => rw [show i + 1 + j = (i + j) + 1 by omega]; exact ih i j
theorem row_sz (n : NM) (p : Dm) : SM.sz (rowp n p).f + SM.sz (rowp n p).m + SM.sz (rowp n p).b + SM.sz (rowp n p).t ≤ SM.sz p.is := by
  have h1 := sz_tk_dr p.is (cut p)
  unfold rowp
  split
  · simp only [SM.sz, items, last] at *
    omega
  · rename_i h
    have h2 := sz_tk_dr (items p) (ixe n (items p) - 1)
    have h3 := sz_tk_dr (dr (items p) (ixe n (items p) - 1)) 1
    rw [dr_dr] at h3
    have h4 := sz_tk_dr (dr (items p) (ixe n (items p))) 1
    rw [dr_dr] at h4
    rw [show ixe n (items p) - 1 + 1 = ixe n (items p) by omega] at h3
    simp only [last] at *
    show SM.sz (tk (items p) (ixe n (items p) - 1)) + SM.sz (tk (dr (items p) (ixe n (items p) - 1)) 1) + SM.sz (dr (items p) (ixe n (items p) + 1)) + SM.sz (dr p.is (cut p)) ≤ _
    have : SM.sz (items p) = SM.sz (tk p.is (cut p)) := rfl
    omega
theorem parts_len {V : Dm → Option (List Var)} {r : Row} {k : Int} (hV : ∀ q j x l, (r.part q).at_ j = some x → V x = some l → l.length ≤ SM.sz x.is + 1) : ∀ {m j : Nat} {vs : List Var}, m + j = 4 → parts V r k m j = some vs →
    vs.length ≤ (if j ≤ 0 then SM.sz r.f else 0) + (if j ≤ 1 then SM.sz r.m else 0) + (if j ≤ 2 then SM.sz r.b else 0) + (if j ≤ 3 then SM.sz r.t else 0)
  | 0, j, vs, _, h => by
    simp only [parts, Option.some.injEq] at h
    subst h
    simp
  | m + 1, j, vs, hj, h => by
    unfold parts at h
    split at h
    · cases h
    · rename_i a ha
      simp only [Option.map_eq_some_iff] at h
      obtain ⟨l2, h2, rfl⟩ := h
      have h3 := rowVars_len (hV j) ha
      have h4 := parts_len hV (by omega) h2
      rw [List.length_append]
      rcases (show j = 0 ∨ j = 1 ∨ j = 2 ∨ j = 3 by omega) with rfl | rfl | rfl | rfl
      all_goals simp [Row.part] at h3 h4 ⊢
      all_goals first | omega | (rw [h4]; simpa using h3)
theorem vars_len (n : NM) : ∀ (f : Nat) (p : Dm) (vs : List Var), vars n f p = some vs → vs.length ≤ SM.sz p.is + 1
  | 0, _, _, hv => by simp [vars] at hv
  | f + 1, p, vs, hv => by
    unfold vars at hv
    split at hv
    · cases hv
    split at hv
    · simp only [Option.some.injEq] at hv
      subst hv
      simp
    split at hv
    · have h1 := parts_len (fun q j x l _ hl => vars_len n f x l hl) (by rfl) hv
      have h2 := row_sz n p
      simp at h1
      omega
    · simp only [Option.some.injEq] at hv
      subst hv
      simp
end Go.Proofs.YtbomodendobnkaaGreat.MM
