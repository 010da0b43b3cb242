/- From a walk that has made new memory alone to a law's row, whatever its parameters' types; and what a slice that came in gives a walk. -/
import Derived.Test.YtclcnepkgjcmcaaDoorRows
import Derived.WalkKit
import Derived.ProofKit
import Derived.OpenShut
import Derived.Below
import Derived.Carry
import Derived.ChangeSlices
import Derived.ChangeSame
import Derived.Deep.Slices
import Derived.Deep.Fields
import Derived.Test.YtclcnepkgjcmcaaDoorTie
import Derived.Test.YtclcnepkgjcmcaaDoorCards
import Derived.Test.YtclcnepkgjcmcaaDoorQ4
import Derived.LaidSub
import Derived.Deep.DeepHandedRow
import Derived.Lib.LaidTab
import Derived.Test.YtclcnepkgjcmcaaDoorQ1
namespace Go.Proofs.YtclcnepkgjcmcaaDoor
open Go.ChangeShapes Go.WideShapes Go.ChangeAt Go.RowKit Go.Deep

theorem Tryd.laidOut : laidOutB Tryd.prog = true := by kernel_rfl
theorem own : ownKnob Tryd.prog.godebug = none := by kernel_rfl

section
variable {H : Type} {enc : TypeId × Value → H} {P : Program}

/-- All arguments read behind the call as before it, where below the old heap's size nothing has turned. -/
theorem carry_all (hl : laidOutB P = true) {W W' : World} (hb : Below W.heap.size W W') (sp : Nat → Bool) :
    ∀ (ts : List TypeId) (vs : List Value) (ds : List (DataW H)) (ps : List MemPlace), (∀ t ∈ ts, P.readableRec t = true ∧ t < P.types.size) → (∀ x ∈ ps, x.block < W.heap.size) → (∀ x ∈ ps, sp x.block = true) →
      DataW.TrodAll enc P W 0 (fun _ => true) true ts vs ds ps → DataW.TrodAll enc P W' 0 sp true ts vs ds ps
  | [], vs, ds, ps, _, _, _, h => by
    obtain ⟨rfl, rfl, rfl⟩ := trodAll_nil h
    exact trodAll_mk0
  | t :: ts, vs, ds, ps, ht, hlt, hsp, h => by
    obtain ⟨v, vs', d, ds', p, q, rfl, rfl, rfl, h0, hr⟩ := trodAll_cons h
    obtain ⟨r1, r2⟩ := ht t (by simp)
    exact trodAll_cons_mk (WideElems.Trod_stays hl r1 r2 h0 (fun x hx => hb.same (hlt x (by simp [hx]))) (fun x hx => hsp x (by simp [hx])))
      (carry_all hl hb sp ts vs' ds' q (fun t' h' => ht t' (by simp [h'])) (fun x hx => hlt x (by simp [hx])) (fun x hx => hsp x (by simp [hx])) hr)

/-- The row's post of a law: true, the arguments as they were; no old block has turned. -/
theorem law_post {f : Func} {s : ChangeSpec} {W W' : World} {args : Array Value} {ds gs : List (DataW H)} {before : List MemPlace} {tb : TypeId}
    (hl : laidOutB P = true) (hr : ∀ t ∈ f.params.toList, P.readableRec t = true ∧ t < P.types.size) (hres : f.resultTypes = #[tb]) (hbool : P.underlying tb = some .bool) (hvars : s.vars = [])
    (h1 : (s.fn H (ds ++ gs)).results = [.lit (.bool true)]) (h2 : (s.fn H (ds ++ gs)).args = ds) (h3 : (s.fn H (ds ++ gs)).vars = [])
    (hW : DataW.Whole enc P f.params.toList s.vars false W args.toList ds gs before) (hb : Below W.heap.size W W') :
    s.post enc P f false true false false W args (.bool true) W' := by
  have old : ∀ x ∈ before, x.block < W.heap.size := fun x hx => hW.lt x hx
  have whole := hW
  obtain ⟨p, q, hA, hV, hpq, frz, dup⟩ := hW
  rw [hvars] at hV
  obtain ⟨rfl, rfl⟩ := trodVars_none hV
  have hbp : before = p := by simpa using hpq
  subst hbp
  have back : ∀ sp : Nat → Bool, (∀ x ∈ before, sp x.block = true) → DataW.TrodAll enc P W' 0 sp true f.params.toList args.toList ds before :=
    fun sp hsp => carry_all hl hb sp _ _ _ _ hr old hsp hA
  have res : ∀ (b : Nat) (sp : Nat → Bool) (hd : Bool), DataW.TrodAll enc P W' b sp hd f.resultTypes.toList ((Value.bool true).resultList f.resultTypes.size) (s.fn H (ds ++ [])).results [] := by
    intro b sp hd
    rw [h1, hres]
    exact trodAll_cons_mk (shut_bool hbool _) trodAll_mk0
  have novars : ∀ sp : Nat → Bool, DataW.TrodVars enc P W' sp s.vars (s.fn H (ds ++ [])).vars [] := by
    intro sp
    rw [h3, hvars]
    rfl
  refine ⟨ds, [], before, [], before, [], whole, res _ _ _, ?_, novars _, World.keptBut_mono (fun x hx => ⟨hx, .inr (.inl hx)⟩) (hb.frame (· ∈ before)), fun _ => ?_⟩
  · rw [h2]
    exact back _ (fun x hx => decide_eq_true (old x hx))
  · refine ⟨?_, (s.fn H (ds ++ [])).results ++ ds, [], ([] ++ before) ++ [], ⟨[] ++ before, [], trodAll_append (back _ (fun _ _ => rfl)) (res _ _ _), ?_, rfl, ?_, ?_⟩, ?_⟩
    · exact ok_one hres rfl (okWide_bool_mk hbool _)
    · have := novars (fun _ => true)
      rwa [h3] at this
    · intro b off hx
      have hin : MemPlace.cell b off ∈ before := by simpa using hx
      rw [hb.frozen (old _ hin)]
      exact frz b off (by simpa using hin)
    · intro ha
      cases ha
    · intro x hx _
      simpa using hx
end

/-! What a slice that came in gives a walk. -/
/-- a slice of integers: its elements, each at its cell -/
def Came (w : World) (k : IntKind) (A : Option Addr) (n : Nat) (zs : List Int) : Prop :=
  zs.length = n ∧ (0 < n → ∃ b off, A = some ⟨b, off, none⟩ ∧ b < w.heap.size ∧ ∀ i, i < n → w.cell? ⟨b, off + i, none⟩ = some (.int k (zs.getD i 0)))
/-- a slice of structs of c cells each: Z i j is the number in the field j of the element i, where that field is a number -/
def CameRows (w : World) (ks : List IntKind) (A : Option Addr) (n : Nat) (Z : Nat → Nat → Int) : Prop :=
  0 < n → ∃ b off, A = some ⟨b, off, none⟩ ∧ b < w.heap.size ∧ ∀ i, i < n → ∀ j k, ks[j]? = some k → w.cell? ⟨b, off + (i * ks.length + j), none⟩ = some (.int k (Z i j))

theorem Came.at_ {W w : World} {k : IntKind} {A : Option Addr} {n i : Nat} {zs : List Int} (h : Came W k A n zs) (hb : Below W.heap.size W w) (hi : i < n) :
    ∃ b off, A = some ⟨b, off, none⟩ ∧ b < W.heap.size ∧ w.cell? ⟨b, off + i, none⟩ = some (.int k (zs.getD i 0)) := by
  obtain ⟨b, off, hA, hlt, hc⟩ := h.2 (by omega)
  exact ⟨b, off, hA, hlt, (hb.cell (p := ⟨b, off + i, none⟩) hlt).trans (hc i hi)⟩
theorem CameRows.at_ {W w : World} {ks : List IntKind} {A : Option Addr} {n i : Nat} {Z : Nat → Nat → Int} (h : CameRows W ks A n Z) (hb : Below W.heap.size W w) (hi : i < n) :
    ∃ b off, A = some ⟨b, off, none⟩ ∧ b < W.heap.size ∧ ∀ j k, ks[j]? = some k → w.cell? ⟨b, off + (i * ks.length + j), none⟩ = some (.int k (Z i j)) := by
  obtain ⟨b, off, hA, hlt, hc⟩ := h (by omega)
  exact ⟨b, off, hA, hlt, fun j k hj => (hb.cell (p := ⟨b, off + (i * ks.length + j), none⟩) hlt).trans (hc i hi j k hj)⟩

section
variable {H : Type} {enc : TypeId × Value → H} {P : Program} {W : World} {base : Nat} {v : Value} {d : DataW H} {ps : List MemPlace}
theorem came_open {t e : TypeId} {k : IntKind} (ht : P.underlying t = some (.slice e)) (he : P.underlying e = some (.int k)) (hc : P.cellsOf e = 1) (hv : Value.okWide P W .any base t v)
    (h : DataW.Trod enc P W 0 (fun _ => true) true t v d ps) : ∃ A n c zs, v = .slice A n c ∧ n ≤ maxLen ∧ Came W k A n zs := by
  obtain ⟨A, n, c, rfl⟩ := okWide_slice ht hv
  obtain ⟨fuel, hf⟩ := h
  rcases open_ints ht he hc hf with ⟨hcs, _⟩ | ⟨a, len, cap, zs, hcs, _, hl, hm, hz, _, hcell, _⟩
  · simp [Value.cells] at hcs
    obtain ⟨rfl, rfl, rfl⟩ := hcs
    exact ⟨_, _, _, [], rfl, Nat.zero_le _, rfl, fun h => absurd h (by omega)⟩
  · simp [Value.cells] at hcs
    obtain ⟨rfl, rfl, rfl⟩ := hcs
    simp only [if_true] at hz
    refine ⟨_, _, _, zs.take n, rfl, Nat.le_trans hl hm, by rw [List.length_take]; omega, fun hn => ?_⟩
    obtain ⟨b, off, spot⟩ := a
    have hspot : spot = none := by simpa [Addr.add] using World.cell?_spot (hcell 0 (by omega))
    subst hspot
    refine ⟨b, off, rfl, World.block_lt_of_cell? W _ (hcell 0 (by omega)), fun i hi => ?_⟩
    have := hcell i (by omega)
    rw [add_plain] at this
    rw [this]
    simp [List.getD_eq_getElem?_getD, hi]

theorem came_rows_open {t e : TypeId} {fs : Array Field} {ks : List IntKind} (ht : P.underlying t = some (.slice e)) (he : P.underlying e = some (.struct fs)) (hone : oneCellFields P fs = true) (hC : P.cellsOf e = ks.length)
    (hks : ks.length = fs.size) (hk : ∀ (j : Nat) (f : Field) (k : IntKind), fs[j]? = some f → ks[j]? = some k → P.underlying f.type = some (.int k)) (hpos : 0 < ks.length)
    (hv : Value.okWide P W .any base t v) (h : DataW.Trod enc P W 0 (fun _ => true) true t v d ps) : ∃ A n c Z, v = .slice A n c ∧ n ≤ maxLen ∧ CameRows W ks A n Z := by
  obtain ⟨A, n, c, rfl⟩ := okWide_slice ht hv
  obtain ⟨fuel, hf⟩ := h
  rcases open_slice ht hf with ⟨hcs, _⟩ | ⟨a, len, cap, m, q, D, Pl, hcs, _, hl, hm, hmm, _, hall⟩
  · simp [Value.cells] at hcs
    obtain ⟨rfl, rfl, rfl⟩ := hcs
    exact ⟨_, _, _, fun _ _ => 0, rfl, Nat.zero_le _, fun h => absurd h (by omega)⟩
  · simp [Value.cells] at hcs
    obtain ⟨rfl, rfl, rfl⟩ := hcs
    simp only [if_true] at hmm
    have each : ∀ i, i < n → ∀ j k, ks[j]? = some k → ∃ z, W.cell? (a.add (i * ks.length + j)) = some (.int k z) := by
      intro i hi j k hj
      obtain ⟨cs', hcells, htr⟩ := hall i (by omega)
      obtain ⟨xs, n', _, _, hlen, hxl, hfield⟩ := DataW.trod_struct he htr
      obtain ⟨_, hcl, hat⟩ := World.cells?_some hcells
      have hjl : j < ks.length := (List.getElem?_eq_some_iff.1 hj).1
      have hfj : fs[j]? = some (fs[j]'(by omega)) := Array.getElem?_eq_getElem (by omega)
      obtain ⟨ho, hk1⟩ := hone_of hone j _ hfj
      have h1 := hfield j _ hfj
      rw [ho, hk1, take1_drop cs' j undef (by omega)] at h1
      have hy : xs[j]? = some (xs[j]'(by omega)) := List.getElem?_eq_getElem (by omega)
      rw [hy] at h1
      obtain ⟨z, hz, _, _⟩ := DataW.trod_int (hk j _ k hfj hj) h1
      have hcj := hat j (by omega)
      refine ⟨z, ?_⟩
      rw [hC] at hcj
      rw [← Go.Deep.add_add, hcj, List.getElem?_eq_getElem (by omega)]
      simp only [List.cons.injEq, and_true] at hz
      rw [← hz]
      simp [List.getD_eq_getElem?_getD, List.getElem?_eq_getElem (show j < cs'.length by omega)]
    refine ⟨_, _, _, fun i j => intOf ((W.cell? (a.add (i * ks.length + j))).getD undef), rfl, Nat.le_trans hl hm, fun hn => ?_⟩
    obtain ⟨b, off, spot⟩ := a
    obtain ⟨z0, hz0⟩ := each 0 hn 0 _ (List.getElem?_eq_getElem hpos)
    have hspot : spot = none := by simpa [Addr.add] using World.cell?_spot hz0
    subst hspot
    refine ⟨b, off, rfl, ?_, fun i hi j k hj => ?_⟩
    · have := World.block_lt_of_cell? W _ hz0
      rwa [add_plain] at this
    · obtain ⟨z, hz⟩ := each i hi j k hj
      show W.cell? _ = some (.int k (intOf ((W.cell? ((⟨b, off, none⟩ : Addr).add (i * ks.length + j))).getD undef)))
      rw [hz]
      rw [add_plain] at hz
      rw [hz]
      rfl
end
end Go.Proofs.YtclcnepkgjcmcaaDoor

/- What the rows' list of the table of sizes gives a walk, and a world that meets it. -/
namespace Go.Proofs.YtclcnepkgjcmcaaDoor
open Go.ChangeShapes Go.WideShapes Go.ChangeAt Go.RowKit

theorem gTab : Tryd.prog.globalNamed "spindle/tread.sizes" = some 0 := by kernel_rfl
theorem gTabType : (Tryd.prog.globals[0]?).map (·.type) = some 27 := by kernel_rfl
theorem cellsTab : Tryd.prog.cellsOf 27 = 4 := by kernel_rfl
theorem cellsInt : Tryd.prog.cellsOf 3 = 1 := by kernel_rfl

/-- The list that each row of this seat bears. -/
def laidList : List (String × DataW Unit) := [("spindle/tread.sizes", Rows.laid_spindle_tread_sizes)]
/-- What the list gives: the table stands. -/
theorem table {W : World} (h : laidMetH Tryd.prog laidList W) : Tab W := by
  have h1 : laidMetH Tryd.prog [("spindle/tread.sizes", Lib.tabData .i64 [3, 7, 31, 127])] W := h
  have h2 := Lib.tabIs_of_head (rest := []) gTab gTabType Tryd.underlying27 Tryd.underlying3 cellsInt cellsTab h1
  have c := fun i hi => h2.cell gTab i hi
  have c0 := c 0 (by decide)
  refine ⟨World.block_lt_of_cell? W _ c0, fun i hi => ?_⟩
  rcases lt4 hi with rfl | rfl | rfl | rfl
  · exact c0
  · exact c 1 (by decide)
  · exact c 2 (by decide)
  · exact c 3 (by decide)

/-- the table's cells, filled -/
def filled (zs : List Value) : Obj → Obj
  | .cells _ t frozen => .cells zs.toArray t frozen
  | o => o
/-- A world for the witness: the settled one, the table holding what its initialiser lays. -/
noncomputable def laidWorld (os : Os) : World :=
  { World.holding Tryd.prog os ⟨#[], #[], []⟩ with heap := (World.holding Tryd.prog os ⟨#[], #[], []⟩).heap.modify 0 (filled [.int .i64 3, .int .i64 7, .int .i64 31, .int .i64 127]) }
theorem laid_met (os : Os) (args : Array Value) : laidMet Tryd.prog laidList ((laidWorld os).forCall (fun _ _ => 0) ⟨#[], args, []⟩).memory :=
  laidMet_of_run' 8 (by kernel_rfl) (by kernel_rfl)
end Go.Proofs.YtclcnepkgjcmcaaDoor

/- What holds of the heap between the collector's doings: rings, marks, counts. Plain mathematics. -/
namespace Go.Proofs.YtclcnepkgjcmcaaDoor

def Geo.C (G : Geo) (b : Int) : Prop := G.cell b = true
theorem Geo.ok.plc {G : Geo} (g : G.ok) {n : Nat} (hn : (n : Int) = G.top) : Plc n G.C := by
  obtain ⟨l1, l2, l3, l4, -⟩ := g.lines
  refine ⟨by omega, fun u hu => (Geo.extent g hu).1, fun u hu => ?_, fun u v hu hv hne => ?_⟩
  · have := (Geo.extent g hu).2
    have := ln_lo (G.cls u)
    omega
  · have := Geo.far g hu hv hne
    have := ln_lo (G.cls u)
    have := ln_lo (G.cls v)
    omega

/-- neither a mark nor a link -/
def Geo.data (G : Geo) (j : Int) : Prop := ∀ u, Mem G.C u → j ≠ u ∧ j ≠ u + 1 ∧ j ≠ u + 2
/-- fields, registers, and what the cells are, are as they were -/
structure Dat (G : Geo) (ws ws' : List Int) : Prop where
  len : ws'.length = ws.length
  dat : ∀ j, G.data j → gv ws' j = gv ws j
  shp : ∀ b, G.C b → gv ws' b % 8192 = gv ws b % 8192
theorem Dat.refl (G : Geo) (ws : List Int) : Dat G ws ws := ⟨rfl, fun _ _ => rfl, fun _ _ => rfl⟩
theorem Dat.trans {G : Geo} {a b c : List Int} (h : Dat G a b) (k : Dat G b c) : Dat G a c :=
  ⟨k.len.trans h.len, fun j hj => (k.dat j hj).trans (h.dat j hj), fun b hb => (k.shp b hb).trans (h.shp b hb)⟩
theorem form_shp {a b : Int} (h : a % 8192 = b % 8192) : mform a = mform b ∧ mtag a = mtag b ∧ msize a = msize b := by
  unfold mform mtag msize
  omega
section
variable {G : Geo} {n : Nat} {ws ws' : List Int} {u v b : Int}
/-- a cell's mark is no link -/
theorem Mem.mark (p : Plc n G.C) (hb : G.C b) (hu : Mem G.C u) : b ≠ u + 1 ∧ b ≠ u + 2 := by
  by_cases e : b = u
  · omega
  · have := Mem.far p (.inr hb) hu e
    omega
theorem Keep.dat (p : Plc n G.C) (hl : ws'.length = ws.length) (k : Keep G.C ws ws') : Dat G ws ws' :=
  ⟨hl, fun j hj => k j fun u hu => (hj u hu).2, fun b hb => by rw [k b fun u hu => Mem.mark p hb hu]⟩
/-- the words of a cell's fields, and the registers -/
theorem Geo.ok.field (g : G.ok) (hb : G.C b) {i : Int} (h0 : 0 ≤ i) (h1 : i + 3 < ln (G.cls b)) : G.data (b + 3 + i) := by
  intro u hu
  rcases hu with ⟨k, hk, rfl⟩ | hu
  · have := (Geo.extent g hb).1
    unfold hd
    omega
  · by_cases e : b = u
    · omega
    · have := Geo.far g hb hu e
      have := ln_lo (G.cls u)
      omega
theorem Geo.ok.register (g : G.ok) {i : Int} (h0 : 0 ≤ i) (h1 : i < 12) : G.data i := by
  intro u hu
  rcases hu with ⟨k, hk, rfl⟩ | hu
  · unfold hd
    omega
  · have := (Geo.extent g hu).1
    omega
end

open Go.RowKit
/-- a sum of n numbers -/
def sumTo (f : Nat → Nat) : Nat → Nat
  | 0 => 0
  | n + 1 => sumTo f n + f n
/-- how many of some cells are of the size c -/
def Geo.fl (G : Geo) (c : Nat) (l : List Int) : Nat := (l.filter (fun b => G.cls b == c)).length
/-- What holds of the heap; B bounds how often the collector went on. -/
structure Inv (B : Int) (G : Geo) (H : Hp) (R : Nat → List Int) : Prop where
  ok : G.ok
  len : (H.ws.length : Int) = G.top
  rg : Rg H.ws.length G.C H.ws R
  wrd : ∀ j, 0 ≤ gv H.ws j ∧ gv H.ws j < 18446744073709551616
  cover : ∀ b, G.C b → ∃ k, k < 13 ∧ b ∈ R k
  cls : ∀ k b, k < 12 → b ∈ R k → G.cls b = k % 4
  bnd : 0 ≤ H.cyc ∧ H.cyc ≤ B ∧ 0 ≤ H.mis ∧ H.mis ≤ B ∧ B ≤ 1000000000
  shp : ∀ k b, 4 ≤ k → k < 13 → b ∈ R k → 1 ≤ mform (gv H.ws b) ∧ mform (gv H.ws b) ≤ 3 ∧ cln (msize (gv H.ws b)) = G.cls b ∧ (mform (gv H.ws b) = 3 → msize (gv H.ws b) = 2)
  fre : ∀ k b, k < 4 → b ∈ R k → mlast (gv H.ws b) ≤ H.cyc
  frec : ∀ c, c < 4 → H.fre.at_ c = (R c).length
  white : ∀ k b, 4 ≤ k → k < 8 → b ∈ R k → H.mrk = true ∧ mlast (gv H.ws b) = H.cyc + 1
  whic : H.mrk = true → ∀ c, c < 4 → H.whi.at_ c = (R (4 + c)).length
  black : ∀ k b, 8 ≤ k → k < 12 → b ∈ R k → mlast (gv H.ws b) = H.next ∧ mtask (gv H.ws b) = 0
  tasks : ∃ g w, R 12 = g ++ w ∧ (∀ b, b ∈ g → mtask (gv H.ws b) = 1 ∧ mlast (gv H.ws b) = H.next) ∧ (∀ b, b ∈ w → mtask (gv H.ws b) = 2 ∧ mlast (gv H.ws b) = H.next ∧ mform (gv H.ws b) = 3) ∧
    H.wai = w.length ∧ (H.mrk = false → g = [] ∧ w = [])
  tot : ∀ c, c < 4 → (sumTo (fun j => G.fl c (R j)) 13 : Int) = G.n.at_ c

section
variable {B : Int} {G : Geo} {H : Hp} {R : Nat → List Int} {u v b : Int} {k : Nat}
theorem Inv.plc (h : Inv B G H R) : Plc H.ws.length G.C := h.ok.plc h.len
theorem Inv.short (h : Inv B G H R) : H.ws.length ≤ 1048576 := by
  have := h.ok.lines
  have := h.len
  omega
theorem Inv.time (h : Inv B G H R) : 0 ≤ H.next ∧ H.next ≤ 1000000002 := by
  have := h.bnd
  unfold Hp.next
  split <;> omega
theorem Inv.into (h : Inv B G H R) (hb : G.C b) : inside H.ws.length b = true := by
  have := h.plc.low b hb
  have := h.plc.top b hb
  exact inside_mk (by omega) (by omega)
theorem pigeon : ∀ (n : Nat) (l : List Nat), l.Nodup → (∀ x ∈ l, x < n) → l.length ≤ n
  | 0, l, _, h => by
    cases l with
    | nil => simp
    | cons x t => exact absurd (h x (by simp)) (by omega)
  | n + 1, l, hn, h => by
    have := pigeon n (l.erase n) (hn.erase n) (fun x hx => by
      have := (List.Nodup.mem_erase_iff hn).1 hx
      have := h x this.2
      omega)
    have := List.length_erase (a := n) (l := l)
    split at this <;> omega
theorem ring_len (h : Inv B G H R) (hk : k < 13) : (R k).length ≤ 1048576 := by
  -- distinct places below the top
  have hs := h.short
  have hn := h.rg.nodup k hk
  have hb : ∀ b ∈ R k, 0 ≤ b ∧ b < H.ws.length := fun b hb => by
    have hc := h.rg.place k hk b hb
    have := h.plc.low b hc
    have := h.plc.top b hc
    omega
  have hm : ((R k).map Int.toNat).Nodup := by
    refine List.pairwise_map.2 (List.Pairwise.imp_of_mem ?_ hn)
    intro x y hx hy hne e
    have := hb x hx
    have := hb y hy
    omega
  have := pigeon H.ws.length _ hm (fun x hx => by
    obtain ⟨y, hy, rfl⟩ := List.mem_map.1 hx
    have := hb y hy
    omega)
  simp at this
  omega

/-! a word that names a cell -/
theorem inCl_0 (G : Geo) (b : Int) : G.inCl 0 b = true ↔ 51 ≤ b ∧ b < G.b1 := by
  have e : G.b1 = 51 + 6 * G.n.a := rfl
  show decide (0 ≤ b - 51 ∧ b - 51 < G.n.a * 6) = true ↔ _
  rw [decide_eq_true_iff]
  omega
theorem inCl_1 (G : Geo) (b : Int) : G.inCl 1 b = true ↔ G.b1 ≤ b ∧ b < G.b2 := by
  have e : G.b2 = G.b1 + 10 * G.n.b := rfl
  show decide (0 ≤ b - G.b1 ∧ b - G.b1 < G.n.b * 10) = true ↔ _
  rw [decide_eq_true_iff]
  omega
theorem inCl_2 (G : Geo) (b : Int) : G.inCl 2 b = true ↔ G.b2 ≤ b ∧ b < G.b3 := by
  have e : G.b3 = G.b2 + 34 * G.n.c := rfl
  show decide (0 ≤ b - G.b2 ∧ b - G.b2 < G.n.c * 34) = true ↔ _
  rw [decide_eq_true_iff]
  omega
theorem inCl_3 (G : Geo) (b : Int) : G.inCl 3 b = true ↔ G.b3 ≤ b ∧ b < G.top := by
  have e : G.top = G.b3 + 130 * G.n.d := rfl
  show decide (0 ≤ b - G.b3 ∧ b - G.b3 < G.n.d * 130) = true ↔ _
  rw [decide_eq_true_iff]
  omega
theorem vl_cell {v : Int} (h0 : 0 ≤ v) (h1 : v < 18446744073709551616) (hk : WM.kd v = 2) : 0 ≤ WM.vl v ∧ WM.vl v ≤ 1099511627776 ∧ v = 8 * WM.vl v + 1 := by
  rcases WM.kd_cases v h0 h1 with h | h | h | h | h | h | h | h | h | h
  · omega
  · omega
  · obtain ⟨-, hh, hm⟩ := h
    simp [WM.hd, WM.least, WM.most] at hh
    unfold WM.mk at hm
    omega
  all_goals omega
theorem kd_mk (b : Int) (h0 : 0 ≤ b) (h1 : b ≤ 1099511627776) : WM.kd (8 * b + 1) = 2 ∧ WM.vl (8 * b + 1) = b := by
  have e1 : (8 * b + 1) % 8 = 1 := by omega
  have e2 : WM.nm (8 * b + 1) = b := by unfold WM.nm wrap64; omega
  have e3 : WM.hd 1 b = true := by simp [WM.hd, WM.least, WM.most]; omega
  have hk : WM.kd (8 * b + 1) = 2 := by
    rw [WM.kd, e1, e2, if_pos e3]
    rfl
  exact ⟨hk, by rw [WM.vl, if_neg (by rw [hk]; decide), e2]⟩
theorem plc_cell (g : G.ok) (h0 : 0 ≤ v) (h1 : v < 18446744073709551616) (h : (G.plc v).2 = true) : G.C (G.plc v).1 ∧ v = 8 * (G.plc v).1 + 1 := by
  obtain ⟨l1, l2, l3, l4, -⟩ := g.lines
  by_cases hk : WM.kd v = 2
  · obtain ⟨-, -, hv⟩ := vl_cell h0 h1 hk
    rw [Geo.plc, if_pos hk] at h ⊢
    generalize WM.vl v = B at *
    unfold Geo.C
    rw [Geo.cell_iff]
    by_cases c0 : G.inCl 0 B = true
    · rw [if_pos c0] at h ⊢
      have := (inCl_0 G B).1 c0
      have h' : (B - 51) % 6 = 0 := by simpa [Geo.bas, Q4.at_, ln] using h
      exact ⟨.inl ⟨this.1, this.2, h'⟩, hv⟩
    · rw [if_neg c0] at h ⊢
      by_cases c1 : G.inCl 1 B = true
      · rw [if_pos c1] at h ⊢
        have := (inCl_1 G B).1 c1
        have h' : (B - G.b1) % 10 = 0 := by simpa [Geo.bas, Q4.at_, ln] using h
        exact ⟨.inr (.inl ⟨this.1, this.2, h'⟩), hv⟩
      · rw [if_neg c1] at h ⊢
        by_cases c2 : G.inCl 2 B = true
        · rw [if_pos c2] at h ⊢
          have := (inCl_2 G B).1 c2
          have h' : (B - G.b2) % 34 = 0 := by simpa [Geo.bas, Q4.at_, ln] using h
          exact ⟨.inr (.inr (.inl ⟨this.1, this.2, h'⟩)), hv⟩
        · rw [if_neg c2] at h ⊢
          by_cases c3 : G.inCl 3 B = true
          · rw [if_pos c3] at h ⊢
            have := (inCl_3 G B).1 c3
            have h' : (B - G.b3) % 130 = 0 := by simpa [Geo.bas, Q4.at_, ln] using h
            exact ⟨.inr (.inr (.inr ⟨this.1, this.2, h'⟩)), hv⟩
          · rw [if_neg c3] at h
            cases h
  · rw [Geo.plc, if_neg hk] at h
    cases h
theorem plc_of_cell (g : G.ok) (hb : G.C b) : G.plc (8 * b + 1) = (b, true) := by
  obtain ⟨l1, l2, l3, l4, l5⟩ := g.lines
  have hx := Geo.extent g hb
  have hl := ln_lo (G.cls b)
  obtain ⟨hk, hv⟩ := kd_mk b (by omega) (by omega)
  rw [Geo.plc, if_pos hk, hv]
  have n0 := inCl_0 G b
  have n1 := inCl_1 G b
  have n2 := inCl_2 G b
  have n3 := inCl_3 G b
  rcases Geo.cell_iff.1 hb with ⟨a, c, d⟩ | ⟨a, c, d⟩ | ⟨a, c, d⟩ | ⟨a, c, d⟩
  · rw [if_pos (n0.2 ⟨a, c⟩)]
    simpa [Geo.bas, Q4.at_, ln] using d
  · rw [if_neg (fun h => by have := n0.1 h; omega), if_pos (n1.2 ⟨a, c⟩)]
    simpa [Geo.bas, Q4.at_, ln] using d
  · rw [if_neg (fun h => by have := n0.1 h; omega), if_neg (fun h => by have := n1.1 h; omega), if_pos (n2.2 ⟨a, c⟩)]
    simpa [Geo.bas, Q4.at_, ln] using d
  · rw [if_neg (fun h => by have := n0.1 h; omega), if_neg (fun h => by have := n1.1 h; omega), if_neg (fun h => by have := n2.1 h; omega), if_pos (n3.2 ⟨a, c⟩)]
    simpa [Geo.bas, Q4.at_, ln] using d
end
end Go.Proofs.YtclcnepkgjcmcaaDoor
