/- What package fix's Text and the document's own give: the same numeral. -/
import Derived.Test.YthfelkcomhflnaaDoorQ1
import Derived.Test.YthfelkcomhflnaaDoorShelf
import Derived.Lib.AppendIntMem
import Derived.WalkSpells
import Derived.Laws.BytesString
import Derived.Test.YthfelkcomhflnaaDoorRows
import Derived.WalkKit
import Derived.ProofKit
import Derived.OpenShut
import Derived.Below
import Derived.Carry
import Derived.ChangeSlices
import Derived.ChangeSame
import Derived.Deep.Slices
import Derived.Deep.Fields
import Derived.Test.YthfelkcomhflnaaDoorTie
import Derived.Test.YthfelkcomhflnaaDoorCards
import Derived.LaidSub
import Derived.Deep.DeepHandedRow
import Derived.Lib.LaidTab
namespace Go.Proofs.YthfelkcomhflnaaDoor
open Go.ChangeShapes Go.WideShapes Go.ChangeAt Go.RowKit

/-- the table of the library's that Itoa reads stands -/
def Tab (w : World) : Prop := Lib.TabIs Tryd.prog w "internal/strconv.uint64pow10" .u64 Lib.pow10Tab
/-- the world went on: what was there stands -/
def Went (w w' : World) : Prop := Below w.heap.size w w'
theorem Went.refl (w : World) : Went w w := Below.refl _ _
theorem Went.trans {a b c : World} (h : Went a b) (k : Went b c) : Went a c := Below.trans h (Below.mono k (Below.size h))
theorem Went.same {a b c : World} (h : Went a b) (k : b = c) : Went a c := k ▸ h
theorem Went.of_drew {w w' : World} (h : Went w.drew w') : Went w w' := ⟨h.os, h.tape, h.output, h.size, h.block⟩
theorem Tab.on {w w' : World} (h : Tab w) (k : Went w w') : Tab w' := (Lib.tabBelow_of_tabIs h) w' k

theorem text_any (n : Int) (h0 : -9223372036854775808 ≤ n) (h1 : n ≤ 9223372036854775807) (w : World) (ht : Tab w) :
    Calls Tryd.prog 33 #[.int .i64 n] w fun e w' => e = .returned (.string ⟨(Lib.itoa n).toArray⟩) ∧ Went w w' := by
  have H := fun w ht => Tryd.strconv_Itoa n h0 h1 w ht
  have H' := Lib.hid H
  clear H
  go_enter Tryd.func33, Tryd.ntmps33
  go_wp2_with (go_at_call 45; refine (H'.out _ ht).mono ?_; rintro e w' ⟨rfl, k, os, rfl⟩)
  go_ret
  exact ⟨rfl, Lib.below_grow _ _ (Nat.le_refl _) k os⟩

/-- string([]byte{x}) -/
theorem conv_one (w : World) (x : Int) :
    (convert 60 9 (.slice (some ⟨w.heap.size, 0, none⟩) 1 1)).run Tryd.prog (w.alloc (.cells #[.int .u8 x] 5))
      = .ok (.string (ByteArray.empty.push (UInt8.ofNat x.toNat))) (w.alloc (.cells #[.int .u8 x] 5)) := by
  rw [run_convert_bytes_string _ _ _ 5 _ _ _ Tryd.underlying60 Tryd.underlying5 Tryd.underlying9]
  exact run_bytesToString (P := Tryd.prog) (w.alloc (.cells #[.int .u8 x] 5)) ⟨w.heap.size, 0, none⟩ 1 1 [x] (run_loadCells_list _ _ [.int .u8 x] (fun j v hj => by
    obtain ⟨rfl, rfl⟩ : j = 0 ∧ Value.int .u8 x = v := by
      have h1 := (List.getElem?_eq_some_iff.1 hj).1
      simp only [List.length_cons, List.length_nil] at h1
      obtain rfl : j = 0 := by omega
      exact ⟨rfl, by simpa using hj⟩
    go_simp))

/-- one digit more ahead -/
theorem digit_eq (v : Nat) : (48 : UInt8) + UInt8.ofNat (v % 10) = UInt8.ofNat (48 + v % 10) := by
  rw [UInt8.ofNat_add]; rfl
theorem push_data (c : UInt8) (b : ByteArray) : (ByteArray.empty.push c ++ b).data.toList = c :: b.data.toList := by
  rw [ByteArray.data_append]; simp [ByteArray.empty, ByteArray.emptyWithCapacity]; rfl
theorem txt_step {u v : Nat} {b : ByteArray} (h : ¬ v < 10) (H : Lib.decDigits u = Lib.decDigits v ++ b.data.toList) :
    Lib.decDigits u = Lib.decDigits (v / 10) ++ (ByteArray.empty.push (48 + UInt8.ofNat (v % 10)) ++ b).data.toList := by
  rw [H, Lib.decDigits, dif_neg h, push_data, digit_eq]; simp
theorem txt_end {u v : Nat} {b : ByteArray} (h : v < 10) (H : Lib.decDigits u = Lib.decDigits v ++ b.data.toList) :
    Lib.decDigits u = (ByteArray.empty.push (48 + UInt8.ofNat (v % 10)) ++ b).data.toList := by
  rw [H, Lib.decDigits, dif_pos h, push_data, digit_eq, Nat.mod_eq_of_lt h]; simp
theorem txt_len {u : Nat} (hu : (u : Int) ≤ 9223372036854775808) {l : List UInt8} {b : ByteArray} (H : Lib.decDigits u = l ++ b.data.toList) : b.size ≤ 20 := by
  have h1 := (FM.dec_len u (by omega)).2
  rw [H, List.length_append] at h1
  have : b.data.toList.length = b.size := by simp
  omega
theorem itoa_minus {n : Int} {u : Nat} (hn : n < 0) (hu : n.natAbs = u) {b : ByteArray} (h : Lib.decDigits u = b.data.toList) : (⟨#[45]⟩ ++ b : ByteArray) = ⟨(Lib.itoa n).toArray⟩ := by
  apply bytes_inj
  rw [Lib.itoa, if_pos hn, hu, h, ByteArray.data_append]; simp
theorem itoa_plain {n : Int} {u : Nat} (hn : ¬ n < 0) (hu : n.toNat = u) {b : ByteArray} (h : Lib.decDigits u = b.data.toList) : b = ⟨(Lib.itoa n).toArray⟩ := by
  apply bytes_inj
  rw [Lib.itoa, if_neg hn, hu, h]
theorem ret_s {a b : ByteArray} (h : a = b) : Ending.returned (.string a) = .returned (.string b) := by rw [h]

end Go.Proofs.YthfelkcomhflnaaDoor

/- From a walk that has made new memory alone to a law's row, whatever its parameters' types; and what a slice that came in gives a walk. -/
namespace Go.Proofs.YthfelkcomhflnaaDoor
open Go.ChangeShapes Go.WideShapes Go.ChangeAt Go.RowKit Go.Deep

theorem Tryd.laidOut : laidOutB Tryd.prog = true := by kernel_rfl
theorem own : ownKnob Tryd.prog.godebug = none := by kernel_rfl

section
variable {H : Type} {enc : TypeId × Value → H} {P : Program}

/-- All arguments read behind the call as before it, where below the old heap's size nothing has turned. -/
theorem carry_all (hl : laidOutB P = true) {W W' : World} (hb : Below W.heap.size W W') (sp : Nat → Bool) :
    ∀ (ts : List TypeId) (vs : List Value) (ds : List (DataW H)) (ps : List MemPlace), (∀ t ∈ ts, P.readableRec t = true ∧ t < P.types.size) → (∀ x ∈ ps, x.block < W.heap.size) → (∀ x ∈ ps, sp x.block = true) →
      DataW.TrodAll enc P W 0 (fun _ => true) true ts vs ds ps → DataW.TrodAll enc P W' 0 sp true ts vs ds ps
  | [], vs, ds, ps, _, _, _, h => by
    obtain ⟨rfl, rfl, rfl⟩ := trodAll_nil h
    exact trodAll_mk0
  | t :: ts, vs, ds, ps, ht, hlt, hsp, h => by
    obtain ⟨v, vs', d, ds', p, q, rfl, rfl, rfl, h0, hr⟩ := trodAll_cons h
    obtain ⟨r1, r2⟩ := ht t (by simp)
    exact trodAll_cons_mk (WideElems.Trod_stays hl r1 r2 h0 (fun x hx => hb.same (hlt x (by simp [hx]))) (fun x hx => hsp x (by simp [hx])))
      (carry_all hl hb sp ts vs' ds' q (fun t' h' => ht t' (by simp [h'])) (fun x hx => hlt x (by simp [hx])) (fun x hx => hsp x (by simp [hx])) hr)

/-- The row's post of a law: true, the arguments as they were; no old block has turned. -/
theorem law_post {f : Func} {s : ChangeSpec} {W W' : World} {args : Array Value} {ds gs : List (DataW H)} {before : List MemPlace} {tb : TypeId}
    (hl : laidOutB P = true) (hr : ∀ t ∈ f.params.toList, P.readableRec t = true ∧ t < P.types.size) (hres : f.resultTypes = #[tb]) (hbool : P.underlying tb = some .bool) (hvars : s.vars = [])
    (h1 : (s.fn H (ds ++ gs)).results = [.lit (.bool true)]) (h2 : (s.fn H (ds ++ gs)).args = ds) (h3 : (s.fn H (ds ++ gs)).vars = [])
    (hW : DataW.Whole enc P f.params.toList s.vars false W args.toList ds gs before) (hb : Below W.heap.size W W') :
    s.post enc P f false true false false W args (.bool true) W' := by
  have old : ∀ x ∈ before, x.block < W.heap.size := fun x hx => hW.lt x hx
  have whole := hW
  obtain ⟨p, q, hA, hV, hpq, frz, dup⟩ := hW
  rw [hvars] at hV
  obtain ⟨rfl, rfl⟩ := trodVars_none hV
  have hbp : before = p := by simpa using hpq
  subst hbp
  have back : ∀ sp : Nat → Bool, (∀ x ∈ before, sp x.block = true) → DataW.TrodAll enc P W' 0 sp true f.params.toList args.toList ds before :=
    fun sp hsp => carry_all hl hb sp _ _ _ _ hr old hsp hA
  have res : ∀ (b : Nat) (sp : Nat → Bool) (hd : Bool), DataW.TrodAll enc P W' b sp hd f.resultTypes.toList ((Value.bool true).resultList f.resultTypes.size) (s.fn H (ds ++ [])).results [] := by
    intro b sp hd
    rw [h1, hres]
    exact trodAll_cons_mk (shut_bool hbool _) trodAll_mk0
  have novars : ∀ sp : Nat → Bool, DataW.TrodVars enc P W' sp s.vars (s.fn H (ds ++ [])).vars [] := by
    intro sp
    rw [h3, hvars]
    rfl
  refine ⟨ds, [], before, [], before, [], whole, res _ _ _, ?_, novars _, World.keptBut_mono (fun x hx => ⟨hx, .inr (.inl hx)⟩) (hb.frame (· ∈ before)), fun _ => ?_⟩
  · rw [h2]
    exact back _ (fun x hx => decide_eq_true (old x hx))
  · refine ⟨?_, (s.fn H (ds ++ [])).results ++ ds, [], ([] ++ before) ++ [], ⟨[] ++ before, [], trodAll_append (back _ (fun _ _ => rfl)) (res _ _ _), ?_, rfl, ?_, ?_⟩, ?_⟩
    · exact ok_one hres rfl (okWide_bool_mk hbool _)
    · have := novars (fun _ => true)
      rwa [h3] at this
    · intro b off hx
      have hin : MemPlace.cell b off ∈ before := by simpa using hx
      rw [hb.frozen (old _ hin)]
      exact frz b off (by simpa using hin)
    · intro ha
      cases ha
    · intro x hx _
      simpa using hx
end

/-! What a slice that came in gives a walk. -/
/-- a slice of integers: its elements, each at its cell -/
def Came (w : World) (k : IntKind) (A : Option Addr) (n : Nat) (zs : List Int) : Prop :=
  zs.length = n ∧ (0 < n → ∃ b off, A = some ⟨b, off, none⟩ ∧ b < w.heap.size ∧ ∀ i, i < n → w.cell? ⟨b, off + i, none⟩ = some (.int k (zs.getD i 0)))
/-- a slice of structs of c cells each: Z i j is the number in the field j of the element i, where that field is a number -/
def CameRows (w : World) (ks : List IntKind) (A : Option Addr) (n : Nat) (Z : Nat → Nat → Int) : Prop :=
  0 < n → ∃ b off, A = some ⟨b, off, none⟩ ∧ b < w.heap.size ∧ ∀ i, i < n → ∀ j k, ks[j]? = some k → w.cell? ⟨b, off + (i * ks.length + j), none⟩ = some (.int k (Z i j))

theorem Came.at_ {W w : World} {k : IntKind} {A : Option Addr} {n i : Nat} {zs : List Int} (h : Came W k A n zs) (hb : Below W.heap.size W w) (hi : i < n) :
    ∃ b off, A = some ⟨b, off, none⟩ ∧ b < W.heap.size ∧ w.cell? ⟨b, off + i, none⟩ = some (.int k (zs.getD i 0)) := by
  obtain ⟨b, off, hA, hlt, hc⟩ := h.2 (by omega)
  exact ⟨b, off, hA, hlt, (hb.cell (p := ⟨b, off + i, none⟩) hlt).trans (hc i hi)⟩
theorem CameRows.at_ {W w : World} {ks : List IntKind} {A : Option Addr} {n i : Nat} {Z : Nat → Nat → Int} (h : CameRows W ks A n Z) (hb : Below W.heap.size W w) (hi : i < n) :
    ∃ b off, A = some ⟨b, off, none⟩ ∧ b < W.heap.size ∧ ∀ j k, ks[j]? = some k → w.cell? ⟨b, off + (i * ks.length + j), none⟩ = some (.int k (Z i j)) := by
  obtain ⟨b, off, hA, hlt, hc⟩ := h (by omega)
  exact ⟨b, off, hA, hlt, fun j k hj => (hb.cell (p := ⟨b, off + (i * ks.length + j), none⟩) hlt).trans (hc i hi j k hj)⟩

section
variable {H : Type} {enc : TypeId × Value → H} {P : Program} {W : World} {base : Nat} {v : Value} {d : DataW H} {ps : List MemPlace}
theorem came_open {t e : TypeId} {k : IntKind} (ht : P.underlying t = some (.slice e)) (he : P.underlying e = some (.int k)) (hc : P.cellsOf e = 1) (hv : Value.okWide P W .any base t v)
    (h : DataW.Trod enc P W 0 (fun _ => true) true t v d ps) : ∃ A n c zs, v = .slice A n c ∧ n ≤ maxLen ∧ Came W k A n zs := by
  obtain ⟨A, n, c, rfl⟩ := okWide_slice ht hv
  obtain ⟨fuel, hf⟩ := h
  rcases open_ints ht he hc hf with ⟨hcs, _⟩ | ⟨a, len, cap, zs, hcs, _, hl, hm, hz, _, hcell, _⟩
  · simp [Value.cells] at hcs
    obtain ⟨rfl, rfl, rfl⟩ := hcs
    exact ⟨_, _, _, [], rfl, Nat.zero_le _, rfl, fun h => absurd h (by omega)⟩
  · simp [Value.cells] at hcs
    obtain ⟨rfl, rfl, rfl⟩ := hcs
    simp only [if_true] at hz
    refine ⟨_, _, _, zs.take n, rfl, Nat.le_trans hl hm, by rw [List.length_take]; omega, fun hn => ?_⟩
    obtain ⟨b, off, spot⟩ := a
    have hspot : spot = none := by simpa [Addr.add] using World.cell?_spot (hcell 0 (by omega))
    subst hspot
    refine ⟨b, off, rfl, World.block_lt_of_cell? W _ (hcell 0 (by omega)), fun i hi => ?_⟩
    have := hcell i (by omega)
    rw [add_plain] at this
    rw [this]
    simp [List.getD_eq_getElem?_getD, hi]

theorem came_rows_open {t e : TypeId} {fs : Array Field} {ks : List IntKind} (ht : P.underlying t = some (.slice e)) (he : P.underlying e = some (.struct fs)) (hone : oneCellFields P fs = true) (hC : P.cellsOf e = ks.length)
    (hks : ks.length = fs.size) (hk : ∀ (j : Nat) (f : Field) (k : IntKind), fs[j]? = some f → ks[j]? = some k → P.underlying f.type = some (.int k)) (hpos : 0 < ks.length)
    (hv : Value.okWide P W .any base t v) (h : DataW.Trod enc P W 0 (fun _ => true) true t v d ps) : ∃ A n c Z, v = .slice A n c ∧ n ≤ maxLen ∧ CameRows W ks A n Z := by
  obtain ⟨A, n, c, rfl⟩ := okWide_slice ht hv
  obtain ⟨fuel, hf⟩ := h
  rcases open_slice ht hf with ⟨hcs, _⟩ | ⟨a, len, cap, m, q, D, Pl, hcs, _, hl, hm, hmm, _, hall⟩
  · simp [Value.cells] at hcs
    obtain ⟨rfl, rfl, rfl⟩ := hcs
    exact ⟨_, _, _, fun _ _ => 0, rfl, Nat.zero_le _, fun h => absurd h (by omega)⟩
  · simp [Value.cells] at hcs
    obtain ⟨rfl, rfl, rfl⟩ := hcs
    simp only [if_true] at hmm
    have each : ∀ i, i < n → ∀ j k, ks[j]? = some k → ∃ z, W.cell? (a.add (i * ks.length + j)) = some (.int k z) := by
      intro i hi j k hj
      obtain ⟨cs', hcells, htr⟩ := hall i (by omega)
      obtain ⟨xs, n', _, _, hlen, hxl, hfield⟩ := DataW.trod_struct he htr
      obtain ⟨_, hcl, hat⟩ := World.cells?_some hcells
      have hjl : j < ks.length := (List.getElem?_eq_some_iff.1 hj).1
      have hfj : fs[j]? = some (fs[j]'(by omega)) := Array.getElem?_eq_getElem (by omega)
      obtain ⟨ho, hk1⟩ := hone_of hone j _ hfj
      have h1 := hfield j _ hfj
      rw [ho, hk1, take1_drop cs' j undef (by omega)] at h1
      have hy : xs[j]? = some (xs[j]'(by omega)) := List.getElem?_eq_getElem (by omega)
      rw [hy] at h1
      obtain ⟨z, hz, _, _⟩ := DataW.trod_int (hk j _ k hfj hj) h1
      have hcj := hat j (by omega)
      refine ⟨z, ?_⟩
      rw [hC] at hcj
      rw [← Go.Deep.add_add, hcj, List.getElem?_eq_getElem (by omega)]
      simp only [List.cons.injEq, and_true] at hz
      rw [← hz]
      simp [List.getD_eq_getElem?_getD, List.getElem?_eq_getElem (show j < cs'.length by omega)]
    refine ⟨_, _, _, fun i j => intOf ((W.cell? (a.add (i * ks.length + j))).getD undef), rfl, Nat.le_trans hl hm, fun hn => ?_⟩
    obtain ⟨b, off, spot⟩ := a
    obtain ⟨z0, hz0⟩ := each 0 hn 0 _ (List.getElem?_eq_getElem hpos)
    have hspot : spot = none := by simpa [Addr.add] using World.cell?_spot hz0
    subst hspot
    refine ⟨b, off, rfl, ?_, fun i hi j k hj => ?_⟩
    · have := World.block_lt_of_cell? W _ hz0
      rwa [add_plain] at this
    · obtain ⟨z, hz⟩ := each i hi j k hj
      show W.cell? _ = some (.int k (intOf ((W.cell? ((⟨b, off, none⟩ : Addr).add (i * ks.length + j))).getD undef)))
      rw [hz]
      rw [add_plain] at hz
      rw [hz]
      rfl
end
end Go.Proofs.YthfelkcomhflnaaDoor

/- What the rows' list of the library's tables gives a walk, a world that meets it, and the step from a walk that only makes new memory to a row's post. -/
namespace Go.Proofs.YthfelkcomhflnaaDoor
open Go.ChangeShapes Go.WideShapes Go.ChangeAt Go.RowKit

theorem gTab : Tryd.prog.globalNamed "internal/strconv.uint64pow10" = some 0 := by kernel_rfl
theorem gTabType : (Tryd.prog.globals[0]?).map (·.type) = some 112 := by kernel_rfl
theorem cellsTab : Tryd.prog.cellsOf 112 = 20 := by kernel_rfl
theorem cellsU64 : Tryd.prog.cellsOf 100 = 1 := by kernel_rfl

/-- The list that each row of this seat bears. -/
def laidList : List (String × DataW Unit) := [("math/bits.deBruijn32tab", Rows.laid_math_bits_deBruijn32tab), ("math/bits.deBruijn64tab", Rows.laid_math_bits_deBruijn64tab), ("internal/strconv.uint64pow10", Rows.laid_internal_strconv_uint64pow10)]
/-- What the list gives: Itoa's table stands. -/
theorem table {W : World} (h : laidMetH Tryd.prog laidList W) : Tab W := by
  have h1 : laidMetH Tryd.prog [("internal/strconv.uint64pow10", Lib.tabData .u64 Lib.pow10Tab)] W := h.filter (fun x => x.1.length == 28)
  exact Lib.tabIs_of_head (rest := []) gTab gTabType Tryd.underlying112 Tryd.underlying100 cellsU64 cellsTab h1

def z32 : List Int := [0, 1, 28, 2, 29, 14, 24, 3, 30, 22, 20, 15, 25, 17, 4, 8, 31, 27, 13, 23, 21, 19, 16, 7, 26, 12, 18, 6, 11, 5, 10, 9]
def z64 : List Int := [0, 1, 56, 2, 57, 49, 28, 3, 61, 58, 42, 50, 38, 29, 17, 4, 62, 47, 59, 36, 45, 43, 51, 22, 53, 39, 33, 30, 24, 18, 12, 5, 63, 55, 48, 27, 60, 41, 37, 16, 46, 35, 44, 21, 52, 32, 23, 11, 54, 26, 40, 15, 34, 20, 31, 10, 25, 14, 19, 9, 13, 8, 7, 6]
/-- one table's cells, filled -/
def filled (zs : List Value) : Obj → Obj
  | .cells _ t frozen => .cells zs.toArray t frozen
  | o => o
/-- A world for the witness: the settled one, each table holding what its initialiser lays. -/
noncomputable def laidWorld (os : Os) : World :=
  { World.holding Tryd.prog os ⟨#[], #[], []⟩ with heap := (((World.holding Tryd.prog os ⟨#[], #[], []⟩).heap.modify 0 (filled (Lib.pow10Tab.map (Value.int .u64)))).modify 1 (filled (z32.map (Value.int .u8)))).modify 2 (filled (z64.map (Value.int .u8))) }
theorem laid_met (os : Os) (args : Array Value) : laidMet Tryd.prog laidList ((laidWorld os).forCall (fun _ _ => 0) ⟨#[], args, []⟩).memory :=
  laidMet_of_run' 8 (by kernel_rfl) (by kernel_rfl)

/-- From a walk that has made new memory alone to the row's post: no old block has turned. -/
theorem post_below {H : Type} {enc : TypeId × Value → H} {P : Program} {f : Func} {s : ChangeSpec} {apart fresh handsOn again : Bool} {W W' : World} {args : Array Value} {v : Value} {ds gs : List (DataW H)} {before pa pv : List MemPlace}
    (hW : DataW.Whole enc P f.params.toList s.vars apart W args.toList ds gs before)
    (hres : ∀ (b : Nat) (sp : Nat → Bool) (hd : Bool), DataW.TrodAll enc P W' b sp hd f.resultTypes.toList (v.resultList f.resultTypes.size) (s.fn H (ds ++ gs)).results [])
    (hargs : ∀ sp : Nat → Bool, (∀ p ∈ before, sp p.block = true) → DataW.TrodAll enc P W' 0 sp true f.params.toList args.toList (s.fn H (ds ++ gs)).args pa)
    (hvars : ∀ sp : Nat → Bool, (∀ p ∈ before, sp p.block = true) → DataW.TrodVars enc P W' sp s.vars (s.fn H (ds ++ gs)).vars pv)
    (hps : before = pa ++ pv) (hb : Below W.heap.size W W')
    (hok : ∀ (j : Nat) (t : TypeId) (r : Value), f.resultTypes[j]? = some t → (v.resultList f.resultTypes.size)[j]? = some r → Value.okWide P W' .any 0 t r) :
    s.post enc P f apart fresh handsOn again W args v W' := by
  have old : ∀ p ∈ before, p.block < W.heap.size := fun p hp => hW.lt p hp
  have oldB : ∀ p ∈ before, (fun b => decide (b < W.heap.size)) p.block = true := fun p hp => decide_eq_true (old p hp)
  have inOld : ∀ p, p ∈ pa ++ pv → p ∈ before := fun p hp => hps ▸ hp
  refine ⟨ds, gs, before, [], pa, pv, hW, hres _ _ _, hargs _ oldB, hvars _ oldB, World.keptBut_mono (fun p hp => ⟨hp, ?_⟩) (hb.frame (· ∈ before)), fun _ => ?_⟩
  · have := hps ▸ hp
    exact Or.inr (List.mem_append.1 this)
  · obtain ⟨_, _, _, _, _, frz, dup⟩ := hW
    refine ⟨hok, _, _, ([] ++ pa) ++ pv, ⟨[] ++ pa, pv, trodAll_append (hargs _ (fun _ _ => rfl)) (hres _ _ _), hvars _ (fun _ _ => rfl), rfl, ?_, ?_⟩, ?_⟩
    · intro b off hp
      have hin := inOld (.cell b off) (by simpa using hp)
      rw [hb.frozen (old _ hin)]
      exact frz b off hin
    · intro ha
      have := dup ha
      rw [hps] at this
      simpa using this
    · intro p hp _
      rw [hps]
      simpa using hp
end Go.Proofs.YthfelkcomhflnaaDoor
