/- MatchOrder: the whole walk, from parameters as they came. -/
import Derived.Test.YtbomodendobnkaaGreatQ48
import Derived.Test.YtbomodendobnkaaGreatQ49
namespace Go.Proofs.YtbomodendobnkaaGreat
open Go.ChangeShapes Go.WideShapes Go.ChangeAt Go.RowKit Go.Deep
open MM (Bl Bm Var)

theorem order_any (w : World) (x y : RM.Dm) (u v lv : Value) (lits : List (List UInt8)) (dots : List UInt8)
    (hu : Cn w u x.is) (hv : Cn w v y.is) (hx : Db x) (hy : Db y) (hl : Sn w lv lits) (hls : ∀ x ∈ lits, x.length ≤ maxLen) (hdl : dots.length ≤ maxLen) :
    Calls Tryz.prog 3 #[dtv x u, dtv y v, lv, .string ⟨dots.toArray⟩] w fun e w' => e = .returned (.bool true) ∧ Went w w' := by
  by_cases h : few12 lits dots = true ∧ sm12 x = true ∧ sm12 y = true
  · cases hR : mres true (MM.nms lits dots) Q0 x y with
    | none => exact order_none w x y u v lv lits dots hu hv hx hy hl hls hdl h.1 h.2.1 h.2.2 hR
    | some l => exact order_some w x y u v lv lits dots hu hv hx hy hl hls hdl h.1 h.2.1 h.2.2 l hR
  · exact order_off w x y u v lv lits dots hu hv hl hls hdl h
theorem sn_came {W : World} {A : Option Addr} {n c : Nat} {S : Nat → ByteArray} (hn : n ≤ maxLen) (h : CameStrs W A n S) :
    Sn W (.slice A n c) ((List.range n).map fun i => (S i).data.toList) ∧ ∀ x ∈ (List.range n).map (fun i => (S i).data.toList), x.length ≤ maxLen := by
  unfold maxLen at hn
  refine ⟨?_, fun x hx => ?_⟩
  · have hlen : ((List.range n).map fun i => (S i).data.toList).length = n := by simp
    by_cases h0 : 0 < n
    · obtain ⟨b, off, rfl, hb, hc⟩ := h.2 h0
      refine ⟨_, c, by rw [hlen], by rw [hlen]; omega, b, off, fun _ => ⟨rfl, hb⟩, fun j x hx => ?_⟩
      have hj := (List.getElem?_eq_some_iff.1 hx).1
      rw [hlen] at hj
      rw [List.getElem?_map, List.getElem?_range hj] at hx
      simp only [Option.map_some, Option.some.injEq] at hx
      subst hx
      exact hc j hj
    · refine ⟨_, c, by rw [hlen], by rw [hlen]; omega, 0, 0, fun h => absurd h (by rw [hlen]; exact h0), fun j x hx => ?_⟩
      have hj := (List.getElem?_eq_some_iff.1 hx).1
      omega
  · obtain ⟨i, -, rfl⟩ := List.mem_map.1 hx
    exact h.1 i
theorem matchOrder_walk (x y : RM.Dm) (A : Option Addr) (c : Nat) (B : Option Addr) (d : Nat) (L : Option Addr) (n e : Nat) (S : Nat → ByteArray) (s : ByteArray) (W : World)
    (hu : Cn W (.slice A x.is.len c) x.is) (hv : Cn W (.slice B y.is.len d) y.is) (hx : Db x) (hy : Db y) (hn : n ≤ maxLen) (hS : CameStrs W L n S) (hs : s.size ≤ maxLen) :
    Calls Tryz.prog 3 #[dtv x (.slice A x.is.len c), dtv y (.slice B y.is.len d), .slice L n e, .string s] W fun e w' => e = .returned (.bool true) ∧ Below W.heap.size W w' := by
  obtain ⟨h1, h2⟩ := sn_came (c := e) hn hS
  exact order_any W x y _ _ _ _ s.data.toList hu hv hx hy h1 h2 hs
end Go.Proofs.YtbomodendobnkaaGreat
