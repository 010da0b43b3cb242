/- The law TreadKeeps, walked. -/
import Derived.Test.YtclcnepkgjcmcaaDoorQ43
import Derived.Test.YtclcnepkgjcmcaaDoorQ38
import Derived.Test.YtclcnepkgjcmcaaDoorQ31
import Derived.Test.YtclcnepkgjcmcaaDoorQ46
import Derived.Test.YtclcnepkgjcmcaaDoorQ47
import Derived.Test.YtclcnepkgjcmcaaDoorQ5
import Derived.WideLaws
namespace Go.Proofs.YtclcnepkgjcmcaaDoor
open Go.RowKit Go.ChangeShapes Go.WideShapes Go.ChangeAt

theorem Ws.first {w : World} {x q p b : Nat} {G : Geo} (g : G.ok) (blk : Nat → Nat) (fv : Nat → Value) (hc : Lies w x 43 (wcells q blk (fun _ => .w 12) (.slice none 0 0) false false)) (hT : Tr w q p b G G.fresh) (hxo : ¬ Own3 q p b x) : Ws w x q p b 0 G Md.none 0 w.heap.size blk fv (.slice none 0 0) false false Gk.any := by
  obtain ⟨l1, l2, l3⟩ := hT.lt
  exact ⟨hc, ⟨fun i hi => absurd hi (by omega), fun i hi => absurd hi (by omega), fun i j hi => absurd hi (by omega), fun i j hi => absurd hi (by omega), fun i hi => absurd hi (by omega), fun r hr => trivial, fun i hi => absurd hi (by omega)⟩,
    OwnP.none_ w _, ⟨_, _, _, _, hT, safe_fresh g, trivial, fun i h => h.elim⟩, l1, l2, l3, hc.lt, hxo, fun i hi => absurd hi (by omega), Nat.le_refl _⟩
theorem Says.eq {Q : Prop} {e : Ending} (h : Says Q e) (hq : Q) : e = .returned (.bool true) := by
  obtain ⟨b, rfl, hb⟩ := h
  rw [hb.2 hq]
theorem Says.ne {Q : Prop} {e : Ending} (h : Says Q e) (hq : ¬ Q) : e = .returned (.bool false) := by
  obtain ⟨b, rfl, hb⟩ := h
  cases b
  · rfl
  · exact absurd (hb.1 rfl) hq
theorem small_ok {qa qb qc qd k : Int} (h : Small qa qb qc qd k) : Geo.ok ⟨⟨qa, qb, qc, qd⟩, k⟩ := by
  unfold Small at h
  unfold Geo.ok Geo.top Geo.b3 Geo.b2 Geo.b1
  simp only
  omega
theorem DoT.hi {w : World} {x q p b B k n : Nat} (h : DoT w x q p b B k) (hx : n ≤ x) (hq : n ≤ q) (hp : n ≤ p) (hb : n ≤ b) (hB : n ≤ B) : n ≤ k := by
  rcases h with (h | h) | ⟨h, -⟩
  · omega
  · unfold Own3 at h; omega
  · omega
theorem Tab.below {w w' : World} (h : Tab w) (k : Below w.heap.size w w') : Tab w' := h.turns (Turns.of_below k (fun _ => False)) (fun h => h)

end Go.Proofs.YtclcnepkgjcmcaaDoor

/- TreadRoom: what its walk needs of the model's len and max; G.ok of its heaps. -/
namespace Go.Proofs.YtclcnepkgjcmcaaDoor
open Go.RowKit Go.ChangeShapes Go.WideShapes Go.ChangeAt

theorem ents_len : ∀ (ks : List Nat) (n : Nat), (entsFrom ks n).length = ks.length
  | [], _ => rfl
  | k :: l, n => by
    show (entsFrom l (n + 1)).length + 1 = l.length + 1
    rw [ents_len l]
theorem run_len_pmap (w : World) (ty : TypeId) {g : Nat} {ks : List Nat} (h : PMap w g ks) :
    (Builtin.len_ #[33] ty #[.map (some g)]).run Tryd.prog w = .ok (.int .i64 (ks.length : Nat)) w := by
  have hu : Tryd.prog.underlying 33 = some (.map (Tryd.prog.mapKeyOf 33) (Tryd.prog.mapElemOf 33)) := by kernel_rfl
  have := run_len_map (P := Tryd.prog) (w := w) 33 ty g (entsFrom ks 0).toArray ks.length hu h
  rw [this]
  simp [ents_len, goInt]
theorem run_max_int (a b : Nat) (ts : Array TypeId) (ty : TypeId) (w : World) :
    (Builtin.max_ ts ty #[.int .i64 (a : Nat), .int .i64 (b : Nat)]).run Tryd.prog w = .ok (.int .i64 (max a b : Nat)) w := by
  simp [Builtin.max_, Builtin.max2, Sem.run_pure, go_sem]
  omega
theorem room_ok {L Q : Nat} {k : Int} (hL : L ≤ 300) (hQ : Q ≤ 300) (k1 : 1 ≤ k) (k2 : k ≤ 64) : Geo.ok ⟨⟨2 * (L : Int) + 2 * (Q : Int) + 16, 2 * (L : Int) + 2 * (Q : Int) + 16, 2 * (L : Int) + 2 * (Q : Int) + 16, 2 * (L : Int) + 2 * (Q : Int) + 16⟩, k⟩ := by
  unfold Geo.ok Geo.top Geo.b3 Geo.b2 Geo.b1
  simp only
  omega
theorem big_ok : Geo.ok ⟨⟨2000, 1000, 600, 400⟩, 64⟩ := by
  unfold Geo.ok Geo.top Geo.b3 Geo.b2 Geo.b1
  simp only
  omega
theorem room_at {n : Int} {k : Int} {c : Nat} (hc : c < 4) : (⟨⟨n, n, n, n⟩, k⟩ : Geo).n.at_ c = n := by
  rcases lt4 hc with rfl | rfl | rfl | rfl <;> rfl
theorem wrap_id {x : Int} (h0 : 0 ≤ x) (h1 : x ≤ 1000000) : wrap64 x = x := by
  unfold wrap64
  omega
theorem room_num {L Q : Nat} (hL : L ≤ 300) (hQ : Q ≤ 300) : wrap64 (wrap64 (2 * (L : Int) + wrap64 (2 * (Q : Int))) + 16) = 2 * (L : Int) + 2 * (Q : Int) + 16 := by
  rw [wrap_id (x := 2 * (Q : Int)) (by omega) (by omega), wrap_id (x := 2 * (L : Int) + 2 * (Q : Int)) (by omega) (by omega), wrap_id (by omega) (by omega)]
/-- L by k, rounded up -/
theorem room_quo {L : Nat} {k : Int} (hL : L ≤ 300) (k1 : 1 ≤ k) (k2 : k ≤ 64) : ((L : Int) + k - 1) / k = ((((L : Int) + k - 1) / k).toNat : Nat) ∧ (((L : Int) + k - 1) / k).toNat ≤ 300 ∧ L ≤ (((L : Int) + k - 1) / k).toNat * k.toNat := by
  have h0 : 0 ≤ ((L : Int) + k - 1) / k := Int.ediv_nonneg (by omega) (by omega)
  have h1 : ((L : Int) + k - 1) / k ≤ 300 := by
    have : ((L : Int) + k - 1) / k < 301 := Int.ediv_lt_of_lt_mul (by omega) (by omega)
    omega
  refine ⟨?_, by omega, ?_⟩
  · omega
  · have h2 := Int.emod_add_mul_ediv ((L : Int) + k - 1) k
    have h3 := Int.emod_lt_of_pos ((L : Int) + k - 1) (show (0 : Int) < k by omega)
    have h4 : (((((L : Int) + k - 1) / k).toNat * k.toNat : Nat) : Int) = k * (((L : Int) + k - 1) / k) := by
      rw [Int.natCast_mul, Int.toNat_of_nonneg h0, Int.toNat_of_nonneg (by omega), Int.mul_comm]
    omega
/-- amid the first play: it is full, or as the plain model says, and never more than mo are reached -/
def Mo (Z : Nat → Nat → Int) (j mo : Nat) (M : Md) (N : Nat) (full : Bool) : Prop := full = true ∨ (Sim M (runs Z j).1 ∧ N = (runs Z j).2 ∧ ∀ i, i ≤ j → Rb mo (runs Z i).1)
section
variable {Z : Nat → Nat → Int} {j mo N N' : Nat} {M M' : Md} {full full' : Bool} {is : List Nat}
theorem runs_skip (h : Z j 0 = 6 ∨ Z j 0 = 7) : runs Z (j + 1) = runs Z j := if_pos h
theorem runs_next (h : ¬ (Z j 0 = 6 ∨ Z j 0 = 7)) : runs Z (j + 1) = nxt (Z j 0) (Z j 1) (Z j 2) (Z j 4) (runs Z j) := if_neg h
theorem Mo.skip (h : Mo Z j mo M N full) (e : runs Z (j + 1) = runs Z j) : Mo Z (j + 1) mo M N full := by
  rcases h with h | ⟨a, b, c⟩
  · exact .inl h
  · refine .inr ⟨by rw [e]; exact a, by rw [e]; exact b, fun i hi => ?_⟩
    by_cases hj : i ≤ j
    · exact c i hj
    · obtain rfl : i = j + 1 := by omega
      rw [e]
      exact c j (Nat.le_refl _)
theorem Mo.next {P : Md × Nat} (h : Mo Z j mo M N full) (e : runs Z (j + 1) = P) (hm : full = true → full' = true) (hS : full' = true ∨ (Sim M' P.1 ∧ N' = P.2)) (hr : ∀ i, i ∈ is ↔ Reach M' i) : Mo Z (j + 1) (max mo is.length) M' N' full' := by
  rcases hS with hS | ⟨a, b⟩
  · exact .inl hS
  · rcases h with h | ⟨-, -, c⟩
    · exact .inl (hm h)
    · refine .inr ⟨by rw [e]; exact a, by rw [e]; exact b, fun i hi => ?_⟩
      by_cases hj : i ≤ j
      · exact (c i hj).mono (by omega)
      · obtain rfl : i = j + 1 := by omega
        rw [e]
        exact Rb.sim ⟨is, by omega, fun i hi => (hr i).2 hi⟩ a.symm
theorem len_le (hn : is.Nodup) (hl : ∀ i ∈ is, i < N) : is.length ≤ N := by
  have h2 : is.length ≤ (List.range N).length := List.Nodup.length_le_of_subset hn (fun x hx => List.mem_range.2 (hl x hx))
  simpa using h2
end
theorem Ws.firstK {w : World} {x q p b : Nat} {G : Geo} (g : G.ok) (blk : Nat → Nat) (fv : Nat → Value) {K : Gk} (hK : K G.fresh (G.layR 4 0) (fun _ => False) (fun _ => False)) (hc : Lies w x 43 (wcells q blk (fun _ => .w 12) (.slice none 0 0) false false)) (hT : Tr w q p b G G.fresh) (hxo : ¬ Own3 q p b x) : Ws w x q p b 0 G Md.none 0 w.heap.size blk fv (.slice none 0 0) false false K := by
  obtain ⟨l1, l2, l3⟩ := hT.lt
  exact ⟨hc, ⟨fun i hi => absurd hi (by omega), fun i hi => absurd hi (by omega), fun i j hi => absurd hi (by omega), fun i j hi => absurd hi (by omega), fun i hi => absurd hi (by omega), fun r hr => trivial, fun i hi => absurd hi (by omega)⟩,
    OwnP.none_ w _, ⟨_, _, _, _, hT, safe_fresh g, hK, fun i h => h.elim⟩, l1, l2, l3, hc.lt, hxo, fun i hi => absurd hi (by omega), Nat.le_refl _⟩
theorem Rk.fresh (G : Geo) (L Q k : Nat) : (Rk L Q k 0 0).low 0 G.fresh (G.layR 4 0) (fun _ => False) (fun _ => False) := by
  have E : ∀ k, 4 ≤ k → G.layR 4 0 k = [] := fun k h4 => by
    unfold Geo.layR
    rw [if_neg (by omega)]
    split <;> rfl
  refine ⟨⟨(fun h => by cases h), fun _ => ?_⟩, fun i h => h.elim⟩
  unfold Tt Wh Blk
  rw [E 4 (by omega), E 5 (by omega), E 6 (by omega), E 7 (by omega), E 8 (by omega), E 9 (by omega), E 10 (by omega), E 11 (by omega), E 12 (by omega)]
  simp
end Go.Proofs.YtclcnepkgjcmcaaDoor
