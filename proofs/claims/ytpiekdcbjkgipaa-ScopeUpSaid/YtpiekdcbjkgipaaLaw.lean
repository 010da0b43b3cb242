/- From a walk that has made new memory alone to a law's row, whatever its parameters' types; and what a slice that came in gives a walk. -/
import Derived.Test.YtpiekdcbjkgipaaRows
import Derived.WalkKit
import Derived.ProofKit
import Derived.OpenShut
import Derived.Below
import Derived.Carry
import Derived.ChangeSlices
import Derived.ChangeSame
import Derived.Deep.Slices
import Derived.Deep.Fields
namespace Go.Proofs.Ytpiekdcbjkgipaa
open Go.ChangeShapes Go.WideShapes Go.ChangeAt Go.RowKit Go.Deep

theorem Try.laidOut : laidOutB Try.prog = true := by kernel_rfl
theorem own : ownKnob Try.prog.godebug = none := by kernel_rfl

section
variable {H : Type} {enc : TypeId × Value → H} {P : Program}

/-- All arguments read behind the call as before it, where below the old heap's size nothing has turned. -/
theorem carry_all (hl : laidOutB P = true) {W W' : World} (hb : Below W.heap.size W W') (sp : Nat → Bool) :
    ∀ (ts : List TypeId) (vs : List Value) (ds : List (DataW H)) (ps : List MemPlace), (∀ t ∈ ts, P.readableRec t = true ∧ t < P.types.size) → (∀ x ∈ ps, x.block < W.heap.size) → (∀ x ∈ ps, sp x.block = true) →
      DataW.TrodAll enc P W 0 (fun _ => true) true ts vs ds ps → DataW.TrodAll enc P W' 0 sp true ts vs ds ps
  | [], vs, ds, ps, _, _, _, h => by
    obtain ⟨rfl, rfl, rfl⟩ := trodAll_nil h
    exact trodAll_mk0
  | t :: ts, vs, ds, ps, ht, hlt, hsp, h => by
    obtain ⟨v, vs', d, ds', p, q, rfl, rfl, rfl, h0, hr⟩ := trodAll_cons h
    obtain ⟨r1, r2⟩ := ht t (by simp)
    exact trodAll_cons_mk (WideElems.Trod_stays hl r1 r2 h0 (fun x hx => hb.same (hlt x (by simp [hx]))) (fun x hx => hsp x (by simp [hx])))
      (carry_all hl hb sp ts vs' ds' q (fun t' h' => ht t' (by simp [h'])) (fun x hx => hlt x (by simp [hx])) (fun x hx => hsp x (by simp [hx])) hr)

/-- The row's post of a law: true, the arguments as they were; no old block has turned. -/
theorem law_post {f : Func} {s : ChangeSpec} {W W' : World} {args : Array Value} {ds gs : List (DataW H)} {before : List MemPlace} {tb : TypeId}
    (hl : laidOutB P = true) (hr : ∀ t ∈ f.params.toList, P.readableRec t = true ∧ t < P.types.size) (hres : f.resultTypes = #[tb]) (hbool : P.underlying tb = some .bool) (hvars : s.vars = [])
    (h1 : (s.fn H (ds ++ gs)).results = [.lit (.bool true)]) (h2 : (s.fn H (ds ++ gs)).args = ds) (h3 : (s.fn H (ds ++ gs)).vars = [])
    (hW : DataW.Whole enc P f.params.toList s.vars false W args.toList ds gs before) (hb : Below W.heap.size W W') :
    s.post enc P f false true false false W args (.bool true) W' := by
  have old : ∀ x ∈ before, x.block < W.heap.size := fun x hx => hW.lt x hx
  have whole := hW
  obtain ⟨p, q, hA, hV, hpq, frz, dup⟩ := hW
  rw [hvars] at hV
  obtain ⟨rfl, rfl⟩ := trodVars_none hV
  have hbp : before = p := by simpa using hpq
  subst hbp
  have back : ∀ sp : Nat → Bool, (∀ x ∈ before, sp x.block = true) → DataW.TrodAll enc P W' 0 sp true f.params.toList args.toList ds before :=
    fun sp hsp => carry_all hl hb sp _ _ _ _ hr old hsp hA
  have res : ∀ (b : Nat) (sp : Nat → Bool) (hd : Bool), DataW.TrodAll enc P W' b sp hd f.resultTypes.toList ((Value.bool true).resultList f.resultTypes.size) (s.fn H (ds ++ [])).results [] := by
    intro b sp hd
    rw [h1, hres]
    exact trodAll_cons_mk (shut_bool hbool _) trodAll_mk0
  have novars : ∀ sp : Nat → Bool, DataW.TrodVars enc P W' sp s.vars (s.fn H (ds ++ [])).vars [] := by
    intro sp
    rw [h3, hvars]
    rfl
  refine ⟨ds, [], before, [], before, [], whole, res _ _ _, ?_, novars _, World.keptBut_mono (fun x hx => ⟨hx, .inr (.inl hx)⟩) (hb.frame (· ∈ before)), fun _ => ?_⟩
  · rw [h2]
    exact back _ (fun x hx => decide_eq_true (old x hx))
  · refine ⟨?_, (s.fn H (ds ++ [])).results ++ ds, [], ([] ++ before) ++ [], ⟨[] ++ before, [], trodAll_append (back _ (fun _ _ => rfl)) (res _ _ _), ?_, rfl, ?_, ?_⟩, ?_⟩
    · exact ok_one hres rfl (okWide_bool_mk hbool _)
    · have := novars (fun _ => true)
      rwa [h3] at this
    · intro b off hx
      have hin : MemPlace.cell b off ∈ before := by simpa using hx
      rw [hb.frozen (old _ hin)]
      exact frz b off (by simpa using hin)
    · intro ha
      cases ha
    · intro x hx _
      simpa using hx
end

/-! What a slice that came in gives a walk. -/
/-- a slice of integers: its elements, each at its cell -/
def Came (w : World) (k : IntKind) (A : Option Addr) (n : Nat) (zs : List Int) : Prop :=
  zs.length = n ∧ (0 < n → ∃ b off, A = some ⟨b, off, none⟩ ∧ b < w.heap.size ∧ ∀ i, i < n → w.cell? ⟨b, off + i, none⟩ = some (.int k (zs.getD i 0)))
/-- a slice of structs of c cells each: Z i j is the number in the field j of the element i, where that field is a number -/
def CameRows (w : World) (ks : List IntKind) (A : Option Addr) (n : Nat) (Z : Nat → Nat → Int) : Prop :=
  0 < n → ∃ b off, A = some ⟨b, off, none⟩ ∧ b < w.heap.size ∧ ∀ i, i < n → ∀ j k, ks[j]? = some k → w.cell? ⟨b, off + (i * ks.length + j), none⟩ = some (.int k (Z i j))

theorem Came.at_ {W w : World} {k : IntKind} {A : Option Addr} {n i : Nat} {zs : List Int} (h : Came W k A n zs) (hb : Below W.heap.size W w) (hi : i < n) :
    ∃ b off, A = some ⟨b, off, none⟩ ∧ b < W.heap.size ∧ w.cell? ⟨b, off + i, none⟩ = some (.int k (zs.getD i 0)) := by
  obtain ⟨b, off, hA, hlt, hc⟩ := h.2 (by omega)
  exact ⟨b, off, hA, hlt, (hb.cell (p := ⟨b, off + i, none⟩) hlt).trans (hc i hi)⟩
theorem CameRows.at_ {W w : World} {ks : List IntKind} {A : Option Addr} {n i : Nat} {Z : Nat → Nat → Int} (h : CameRows W ks A n Z) (hb : Below W.heap.size W w) (hi : i < n) :
    ∃ b off, A = some ⟨b, off, none⟩ ∧ b < W.heap.size ∧ ∀ j k, ks[j]? = some k → w.cell? ⟨b, off + (i * ks.length + j), none⟩ = some (.int k (Z i j)) := by
  obtain ⟨b, off, hA, hlt, hc⟩ := h (by omega)
  exact ⟨b, off, hA, hlt, fun j k hj => (hb.cell (p := ⟨b, off + (i * ks.length + j), none⟩) hlt).trans (hc i hi j k hj)⟩

section
variable {H : Type} {enc : TypeId × Value → H} {P : Program} {W : World} {base : Nat} {v : Value} {d : DataW H} {ps : List MemPlace}
theorem came_open {t e : TypeId} {k : IntKind} (ht : P.underlying t = some (.slice e)) (he : P.underlying e = some (.int k)) (hc : P.cellsOf e = 1) (hv : Value.okWide P W .any base t v)
    (h : DataW.Trod enc P W 0 (fun _ => true) true t v d ps) : ∃ A n c zs, v = .slice A n c ∧ n ≤ maxLen ∧ Came W k A n zs := by
  obtain ⟨A, n, c, rfl⟩ := okWide_slice ht hv
  obtain ⟨fuel, hf⟩ := h
  rcases open_ints ht he hc hf with ⟨hcs, _⟩ | ⟨a, len, cap, zs, hcs, _, hl, hm, hz, _, hcell, _⟩
  · simp [Value.cells] at hcs
    obtain ⟨rfl, rfl, rfl⟩ := hcs
    exact ⟨_, _, _, [], rfl, Nat.zero_le _, rfl, fun h => absurd h (by omega)⟩
  · simp [Value.cells] at hcs
    obtain ⟨rfl, rfl, rfl⟩ := hcs
    simp only [if_true] at hz
    refine ⟨_, _, _, zs.take n, rfl, Nat.le_trans hl hm, by rw [List.length_take]; omega, fun hn => ?_⟩
    obtain ⟨b, off, spot⟩ := a
    have hspot : spot = none := by simpa [Addr.add] using World.cell?_spot (hcell 0 (by omega))
    subst hspot
    refine ⟨b, off, rfl, World.block_lt_of_cell? W _ (hcell 0 (by omega)), fun i hi => ?_⟩
    have := hcell i (by omega)
    rw [add_plain] at this
    rw [this]
    simp [List.getD_eq_getElem?_getD, hi]

theorem came_rows_open {t e : TypeId} {fs : Array Field} {ks : List IntKind} (ht : P.underlying t = some (.slice e)) (he : P.underlying e = some (.struct fs)) (hone : oneCellFields P fs = true) (hC : P.cellsOf e = ks.length)
    (hks : ks.length = fs.size) (hk : ∀ (j : Nat) (f : Field) (k : IntKind), fs[j]? = some f → ks[j]? = some k → P.underlying f.type = some (.int k)) (hpos : 0 < ks.length)
    (hv : Value.okWide P W .any base t v) (h : DataW.Trod enc P W 0 (fun _ => true) true t v d ps) : ∃ A n c Z, v = .slice A n c ∧ n ≤ maxLen ∧ CameRows W ks A n Z := by
  obtain ⟨A, n, c, rfl⟩ := okWide_slice ht hv
  obtain ⟨fuel, hf⟩ := h
  rcases open_slice ht hf with ⟨hcs, _⟩ | ⟨a, len, cap, m, q, D, Pl, hcs, _, hl, hm, hmm, _, hall⟩
  · simp [Value.cells] at hcs
    obtain ⟨rfl, rfl, rfl⟩ := hcs
    exact ⟨_, _, _, fun _ _ => 0, rfl, Nat.zero_le _, fun h => absurd h (by omega)⟩
  · simp [Value.cells] at hcs
    obtain ⟨rfl, rfl, rfl⟩ := hcs
    simp only [if_true] at hmm
    have each : ∀ i, i < n → ∀ j k, ks[j]? = some k → ∃ z, W.cell? (a.add (i * ks.length + j)) = some (.int k z) := by
      intro i hi j k hj
      obtain ⟨cs', hcells, htr⟩ := hall i (by omega)
      obtain ⟨xs, n', _, _, hlen, hxl, hfield⟩ := DataW.trod_struct he htr
      obtain ⟨_, hcl, hat⟩ := World.cells?_some hcells
      have hjl : j < ks.length := (List.getElem?_eq_some_iff.1 hj).1
      have hfj : fs[j]? = some (fs[j]'(by omega)) := Array.getElem?_eq_getElem (by omega)
      obtain ⟨ho, hk1⟩ := hone_of hone j _ hfj
      have h1 := hfield j _ hfj
      rw [ho, hk1, take1_drop cs' j undef (by omega)] at h1
      have hy : xs[j]? = some (xs[j]'(by omega)) := List.getElem?_eq_getElem (by omega)
      rw [hy] at h1
      obtain ⟨z, hz, _, _⟩ := DataW.trod_int (hk j _ k hfj hj) h1
      have hcj := hat j (by omega)
      refine ⟨z, ?_⟩
      rw [hC] at hcj
      rw [← Go.Deep.add_add, hcj, List.getElem?_eq_getElem (by omega)]
      simp only [List.cons.injEq, and_true] at hz
      rw [← hz]
      simp [List.getD_eq_getElem?_getD, List.getElem?_eq_getElem (show j < cs'.length by omega)]
    refine ⟨_, _, _, fun i j => intOf ((W.cell? (a.add (i * ks.length + j))).getD undef), rfl, Nat.le_trans hl hm, fun hn => ?_⟩
    obtain ⟨b, off, spot⟩ := a
    obtain ⟨z0, hz0⟩ := each 0 hn 0 _ (List.getElem?_eq_getElem hpos)
    have hspot : spot = none := by simpa [Addr.add] using World.cell?_spot hz0
    subst hspot
    refine ⟨b, off, rfl, ?_, fun i hi j k hj => ?_⟩
    · have := World.block_lt_of_cell? W _ hz0
      rwa [add_plain] at this
    · obtain ⟨z, hz⟩ := each i hi j k hj
      show W.cell? _ = some (.int k (intOf ((W.cell? ((⟨b, off, none⟩ : Addr).add (i * ks.length + j))).getD undef)))
      rw [hz]
      rw [add_plain] at hz
      rw [hz]
      rfl
end
end Go.Proofs.Ytpiekdcbjkgipaa
