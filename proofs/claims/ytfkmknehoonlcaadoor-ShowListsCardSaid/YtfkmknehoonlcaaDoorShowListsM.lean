/- Texts of lists that grow: plain mathematics. -/
import Derived.Test.YtfkmknehoonlcaaDoorShowAwake
namespace Go.Proofs.YtfkmknehoonlcaaDoor.SM
open Go.RowKit RM

theorem hi_snoc (x : Dm) : ∀ d : Dl, hi (d.snoc x) = max (hi d) (hi x.is + 1)
  | .nil => by show max (hi x.is + 1) 0 = max 0 (hi x.is + 1); omega
  | .cons k n s is r => by
    show max (hi is + 1) (hi (r.snoc x)) = max (max (hi is + 1) (hi r)) (hi x.is + 1)
    rw [hi_snoc x r]; omega
theorem sz_snoc (x : Dm) : ∀ d : Dl, sz (d.snoc x) = sz d + sz x.is + 1
  | .nil => by show sz x.is + 1 + 0 = 0 + sz x.is + 1; omega
  | .cons k n s is r => by
    show sz is + 1 + sz (r.snoc x) = sz is + 1 + sz r + sz x.is + 1
    rw [sz_snoc x r]; omega
theorem rgt_snoc (x : Dm) : ∀ d : Dl, rgt (d.snoc x) = (rgt d && (kd x.k x.n x.s x.is && rgt x.is))
  | .nil => by show (kd x.k x.n x.s x.is && rgt x.is && true) = (true && _); simp
  | .cons k n s is r => by
    show (kd k n s is && rgt is && rgt (r.snoc x)) = (kd k n s is && rgt is && rgt r && _)
    rw [rgt_snoc x r, Bool.and_assoc, Bool.and_assoc, Bool.and_assoc]
theorem tl_snoc (p : Bool) (x : Dm) : ∀ (d : Dl) (first : Bool), tl p false first (d.snoc x) = tl p false first d ++ ((if first && decide (d.len = 0) then [] else [32]) ++ txt p x)
  | .nil, first => by
    show (if first then ([] : List UInt8) else [32]) ++ ((if false && decide (Dl.nil.len = 0) then ([46, 32] : List UInt8) else []) ++ (txt p x ++ [])) = [] ++ _
    simp [Dl.len]
  | .cons k n s is r, first => by
    show (if first then ([] : List UInt8) else [32]) ++ ((if false && decide ((r.snoc x).len = 0) then ([46, 32] : List UInt8) else []) ++ (one p k n s (tl p (decide (k = 7)) true is) ++ tl p false false (r.snoc x))) = ((if first then ([] : List UInt8) else [32]) ++ ((if false && decide (r.len = 0) then ([46, 32] : List UInt8) else []) ++ (one p k n s (tl p (decide (k = 7)) true is) ++ tl p false false r))) ++ _
    rw [tl_snoc p x r false]
    simp [Dl.len]
/-- what a list of j has, as it grows -/
structure Gr (d : Dl) (j : Nat) (T : List UInt8) : Prop where
  r : rgt d = true
  h : hi d ≤ 60
  s : sz d ≤ 200 * j
  t : T = 40 :: tl false false true d
theorem gr_nil : Gr .nil 0 [40] := ⟨rfl, Nat.zero_le _, Nat.le_refl _, rfl⟩
theorem gr_step {d : Dl} {j : Nat} {T : List UInt8} (x : Dm) (g : Gr d j T) (hl : d.len = j) (hk : kd x.k x.n x.s x.is = true) (hr : rgt x.is = true) (hh : hi x.is + 1 ≤ 60) (hs : sz x.is + 1 ≤ 200) :
    Gr (d.snoc x) (j + 1) (T ++ ((if j = 0 then [] else [32]) ++ txt false x)) := by
  refine ⟨by rw [rgt_snoc, g.r, hk, hr]; rfl, by rw [hi_snoc]; have := g.h; omega, by rw [sz_snoc]; have := g.s; omega, ?_⟩
  rw [tl_snoc, g.t, hl]
  by_cases h0 : j = 0
  · simp [h0]
  · simp [h0]
theorem gr_len {d : Dl} {j : Nat} {T : List UInt8} (g : Gr d j T) (hj : j ≤ 60) : T.length ≤ 12200000 := by
  rw [g.t]
  have := tl_len false d false true g.r
  have := g.s
  have : 1010 * sz d ≤ 1010 * 12000 := Nat.mul_le_mul_left _ (by omega)
  simp only [List.length_cons]
  omega
/-- the list's own text, or too many -/
theorem gr_end {d : Dl} {j : Nat} {T : List UInt8} (g : Gr d j T) : (okd ⟨6, 0, [], d⟩ = true ∧ txt false ⟨6, 0, [], d⟩ = T ++ [41]) ∨ (okd ⟨6, 0, [], d⟩ = false ∧ 15 < j) := by
  have hkd : kd 6 0 [] d = true := by simp [kd]
  by_cases h : sz d + 1 ≤ 4000
  · refine .inl ⟨?_, ?_⟩
    · have := g.h
      have h2 : hi d + 1 ≤ 64 := by omega
      unfold okd
      simp [h, h2, hkd, g.r]
    · rw [g.t]
      unfold txt one
      simp
  · refine .inr ⟨?_, by have := g.s; omega⟩
    unfold okd
    simp [h]
end Go.Proofs.YtfkmknehoonlcaaDoor.SM
