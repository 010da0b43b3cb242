/- Two tables side by side: the program's and the document's. -/
import Derived.Test.YtbkjmmeipbbaaaaDoorEnvPick
import Derived.Test.YtbkjmmeipbbaaaaDoorEnvMathC
import Derived.Test.YtbkjmmeipbbaaaaDoorEnvCame
namespace Go.Proofs.YtbkjmmeipbbaaaaDoor
open Go.ChangeShapes Go.WideShapes Go.ChangeAt Go.RowKit

/-- the blocks of B stay as they are -/
def Stay (B : Nat → Prop) (w w' : World) : Prop := ∀ (b : Nat) (t : TypeId) (cs : List Value), B b → Lies w b t cs → Lies w' b t cs
/-- both, all of them in blocks from W on, none of them in B; at most jt calls of the one, jr of the other that write -/
def Two (W w : World) (p r : Nat) (T : EM.Tb) (jt jr : Nat) (B : Nat → Prop) : Prop :=
  Below W.heap.size W w ∧ EM.Ok T ∧ T.nt ≤ jt ∧ T.na ≤ jt ∧ T.P.length ≤ jt ∧ ∃ D E np nt A, Tw w p D T ∧ Rw w r E np nt A ∧ (∀ g, D g → W.heap.size ≤ g) ∧ (∀ g, E g → W.heap.size ≤ g) ∧ (∀ g, D g → E g → False) ∧ ER.Ok A ∧ np ≤ 65536 ∧ nt ≤ jr ∧ ∀ b, B b → ¬ D b ∧ ¬ E b ∧ b < w.heap.size
theorem rw_low {w : World} {r np nt : Nat} {E : Nat → Prop} {A : List ER.Al} (h : Rw w r E np nt A) : ∀ g, E g → g < w.heap.size := by
  obtain ⟨_, _, _, _, _, -, -, -, -, -, -, -, -, h9⟩ := h
  exact h9
section
variable {W w w' : World} {p r jt jr : Nat} {T : EM.Tb} {B : Nat → Prop}
theorem Two.went (h : Two W w p r T jt jr B) (k : Went w w') : Two W w' p r T jt jr B ∧ Stay B w w' := by
  obtain ⟨hb, h1, h2, h3, h4, D, E, np, nt, A, h5, h6, h7, h8, h9, h10, h11, h12, h13⟩ := h
  exact ⟨⟨hb.trans (Below.mono k hb.size), h1, h2, h3, h4, D, E, np, nt, A, h5.below k, h6.below k, h7, h8, h9, h10, h11, h12, fun b hB => ⟨(h13 b hB).1, (h13 b hB).2.1, Nat.lt_of_lt_of_le (h13 b hB).2.2 k.size⟩⟩, fun b t cs _ hL => hL.below k hL.lt⟩
theorem Two.box (h : Two W w p r T jt jr B) (o : Obj) : Two W (w.alloc o) p r T jt jr (fun b => B b ∨ b = w.heap.size) := by
  obtain ⟨hb, h1, h2, h3, h4, D, E, np, nt, A, h5, h6, h7, h8, h9, h10, h11, h12, h13⟩ := h
  have k := (Below.refl _ w).alloc (Nat.le_refl w.heap.size) o
  refine ⟨hb.trans (Below.mono k hb.size), h1, h2, h3, h4, D, E, np, nt, A, h5.below k, h6.below k, h7, h8, h9, h10, h11, h12, fun b hB => ?_⟩
  rcases hB with hB | hB
  · exact ⟨(h13 b hB).1, (h13 b hB).2.1, Nat.lt_of_lt_of_le (h13 b hB).2.2 k.size⟩
  · subst hB
    exact ⟨fun hd => by have := h5.low _ hd; omega, fun he => by have := rw_low h6 _ he; omega, by simp⟩
theorem Two.less {B' : Nat → Prop} {jt' jr' : Nat} (h : Two W w p r T jt jr B) (hB : ∀ b, B' b → B b) (h1' : jt ≤ jt') (h2' : jr ≤ jr') : Two W w p r T jt' jr' B' := by
  obtain ⟨hb, h1, h2, h3, h4, D, E, np, nt, A, h5, h6, h7, h8, h9, h10, h11, h12, h13⟩ := h
  exact ⟨hb, h1, by omega, by omega, by omega, D, E, np, nt, A, h5, h6, h7, h8, h9, h10, h11, by omega, fun b hb => h13 b (hB b hb)⟩
theorem two_pick (h : Two W w p r T jt jr B) (n : Int) :
    Calls Tryd.prog 8 #[.pointer (some ⟨r, 0, none⟩), .int .i64 n, .string ⟨#[]⟩] w fun e w' => ∃ s : ByteArray, s.size ≤ 100 ∧ e = .returned (.string s) ∧ Two W w' p r T jt jr B ∧ Stay B w w' := by
  have h0 := h
  obtain ⟨hb, h1, h2, h3, h4, D, E, np, nt, A, h5, h6, h7, h8, h9, h10, h11, h12, h13⟩ := h
  exact (rpick_any r np nt E A h10 n w h6).mono fun e w' ⟨⟨s, e1, e2⟩, e3⟩ => ⟨s, e1, e2, h0.went e3⟩
theorem two_t {T' : EM.Tb} (h : Two W w p r T jt jr B) (hO : EM.Ok T') (h1' : T'.nt ≤ jt + 1) (h2' : T'.na ≤ jt + 1) (h3' : T'.P.length ≤ jt + 1) {Q : Ending → Prop} {f : FuncId} {args : Array Value}
    (hc : ∀ D, Tw w p D T → (∀ g, D g → W.heap.size ≤ g) → Below W.heap.size W w → Calls Tryd.prog f args w fun e w' => Q e ∧ Wrote p D T' w w') : Calls Tryd.prog f args w fun e w' => Q e ∧ Two W w' p r T' (jt + 1) jr B ∧ Stay B w w' := by
  obtain ⟨hb, h1, h2, h3, h4, D, E, np, nt, A, h5, h6, h7, h8, h9, h10, h11, h12, h13⟩ := h
  refine (hc D h5 h7 hb).mono fun e w' ⟨e1, D', q1, q2, q3⟩ => ⟨e1, ⟨hb.trans (q3.below hb.size h7), hO, h1', h2', h3', D', E, np, nt, A, q1, h6.turns q3 (fun g hg hd => h9 g hd hg), fun g hg => ?_, h8, fun g hd he => ?_, h10, h11, h12, fun b hB => ⟨fun hd => ?_, (h13 b hB).2.1, Nat.lt_of_lt_of_le (h13 b hB).2.2 q3.size⟩⟩, fun b t cs hB hL => hL.turns q3 (h13 b hB).1⟩
  · rcases q2 g hg with h | h
    · exact h7 g h
    · exact Nat.le_trans hb.size h
  · rcases q2 g hd with h | h
    · exact h9 g h he
    · have := rw_low h6 g he; omega
  · rcases q2 b hd with h | h
    · exact (h13 b hB).1 h
    · have := (h13 b hB).2.2; omega
theorem two_r (h : Two W w p r T jt jr B) {Q : Ending → Prop} {f : FuncId} {args : Array Value}
    (hc : ∀ E np nt A, Rw w r E np nt A → ER.Ok A → np ≤ 65536 → nt ≤ jr → Calls Tryd.prog f args w fun e w' => Q e ∧ ∃ np' nt' A', ER.Ok A' ∧ np' ≤ 65536 ∧ nt' ≤ jr + 1 ∧ RWrote r E np' nt' A' w w') : Calls Tryd.prog f args w fun e w' => Q e ∧ Two W w' p r T jt (jr + 1) B ∧ Stay B w w' := by
  obtain ⟨hb, h1, h2, h3, h4, D, E, np, nt, A, h5, h6, h7, h8, h9, h10, h11, h12, h13⟩ := h
  refine (hc E np nt A h6 h10 h11 h12).mono fun e w' ⟨e1, np', nt', A', o1, o2, o3, E', q1, q2, q3⟩ => ⟨e1, ⟨hb.trans (q3.below hb.size h8), h1, h2, h3, h4, D, E', np', nt', A', h5.turns q3 (fun g hd he => h9 g hd he), q1, h7, fun g hg => ?_, fun g hd he => ?_, o1, o2, o3, fun b hB => ⟨(h13 b hB).1, fun he => ?_, Nat.lt_of_lt_of_le (h13 b hB).2.2 q3.size⟩⟩, fun b t cs hB hL => hL.turns q3 (h13 b hB).2.1⟩
  · rcases q2 g hg with h | h
    · exact h8 g h
    · exact Nat.le_trans hb.size h
  · rcases q2 g he with h | h
    · exact h9 g hd h
    · have := h5.low g hd; omega
  · rcases q2 b he with h | h
    · exact (h13 b hB).2.1 h
    · have := (h13 b hB).2.2; omega
theorem ext_len (T : EM.Tb) (a : Int) (x : ByteArray) (k n : Int) : (EM.ext T a x k n).nt = T.nt ∧ (EM.ext T a x k n).na = T.na ∧ (EM.ext T a x k n).P.length ≤ T.P.length + 1 := by
  unfold EM.ext; split
  · exact ⟨rfl, rfl, by simp⟩
  · exact ⟨rfl, rfl, by omega⟩
theorem top_len (T : EM.Tb) (x : ByteArray) (k n : Int) : (EM.top T x k n).nt ≤ T.nt + 1 ∧ (EM.top T x k n).na = T.na ∧ (EM.top T x k n).P.length = T.P.length := by
  unfold EM.top; split
  · exact ⟨Nat.le_refl _, rfl, rfl⟩
  · exact ⟨by omega, rfl, rfl⟩
theorem ali_len (T : EM.Tb) (a : Int) (x : ByteArray) : (EM.ali T a x).nt = T.nt ∧ (EM.ali T a x).na ≤ T.na + 1 ∧ (EM.ali T a x).P.length = T.P.length := by
  unfold EM.ali; split
  · exact ⟨rfl, Nat.le_refl _, rfl⟩
  · exact ⟨rfl, by omega, rfl⟩
theorem two_top (h : Two W w p r T jt jr B) (hj : jt ≤ 100000) (x : ByteArray) (hx : x.size ≤ 100) (k n : Int) :
    Calls Tryd.prog 9 #[.pointer (some ⟨p, 0, none⟩), .string x, .agg #[.int .i64 k, .int .i64 n]] w fun e w' => (∃ j, e = .returned (er j)) ∧ Two W w' p r (EM.top T x k n) (jt + 1) jr B ∧ Stay B w w' := by
  obtain ⟨l1, l2, l3⟩ := top_len T x k n
  have h0 := h
  obtain ⟨-, o1, o2, o3, o4, -⟩ := h
  exact two_t h0 (o1.top x k n) (by omega) (by omega) (by omega) (Q := fun e => ∃ j, e = .returned (er j)) fun D h5 h7 hb => top_any p D T x (by omega) k n w h5 (by omega)
theorem two_ext (h : Two W w p r T jt jr B) (a : Int) (x : ByteArray) (hx : x.size ≤ 100) (k n : Int) :
    Calls Tryd.prog 11 #[.pointer (some ⟨p, 0, none⟩), .int .i64 a, .string x, .agg #[.int .i64 k, .int .i64 n]] w fun e w' => (∃ b j : Int, e = .returned (.tuple #[.int .i64 b, er j])) ∧ Two W w' p r (EM.ext T a x k n) (jt + 1) jr B ∧ Stay B w w' := by
  obtain ⟨l1, l2, l3⟩ := ext_len T a x k n
  have h0 := h
  obtain ⟨-, o1, o2, o3, o4, -⟩ := h
  exact two_t h0 (o1.ext a x k n) (by omega) (by omega) (by omega) (Q := fun e => ∃ b j : Int, e = .returned (.tuple #[.int .i64 b, er j])) fun D h5 h7 hb => (ext_any p D T o1 a x (by omega) k n w h5).mono fun e w' ⟨e1, e2⟩ => ⟨⟨_, _, e1⟩, e2⟩
theorem two_ali (hM : MTab W) (hT : Tab W) (h : Two W w p r T jt jr B) (a : Int) (x : ByteArray) (hx : x.size ≤ 100) :
    Calls Tryd.prog 13 #[.pointer (some ⟨p, 0, none⟩), .string x, .int .i64 a] w fun e w' => (∃ (s : ByteArray) (j : Int), e = .returned (.tuple #[.string s, er j])) ∧ Two W w' p r (EM.ali T a x) (jt + 1) jr B ∧ Stay B w w' := by
  obtain ⟨l1, l2, l3⟩ := ali_len T a x
  have h0 := h
  obtain ⟨-, o1, o2, o3, o4, -⟩ := h
  exact two_t h0 (o1.ali a x) (by omega) (by omega) (by omega) (Q := fun e => ∃ (s : ByteArray) (j : Int), e = .returned (.tuple #[.string s, er j])) fun D h5 h7 hb => (ali_any p D T o1 a x (by omega) w h5 (tabs_on hM hT hb h7)).mono fun e w' ⟨e1, e2⟩ => ⟨⟨_, _, e1⟩, e2⟩
theorem two_rtop (h : Two W w p r T jt jr B) (hj : jr ≤ 100000) (x : ByteArray) (hx : x.size ≤ 100) (k n : Int) :
    Calls Tryd.prog 10 #[.pointer (some ⟨r, 0, none⟩), .string x, .agg #[.int .i64 k, .int .i64 n]] w fun e w' => (∃ v : Int, e = .returned (.int .i64 v)) ∧ Two W w' p r T jt (jr + 1) B ∧ Stay B w w' :=
  two_r h (Q := fun e => ∃ v : Int, e = .returned (.int .i64 v)) fun E np nt A h6 o1 o2 o3 => (rtop_any r np nt E A x (by omega) k n w h6 (by omega)).mono fun e w' ⟨e1, nt', e2, e3⟩ => ⟨e1, np, nt', A, o1, o2, by omega, e3⟩
theorem two_rext (h : Two W w p r T jt jr B) (a : Int) (x : ByteArray) (hx : x.size ≤ 100) (k n : Int) :
    Calls Tryd.prog 12 #[.pointer (some ⟨r, 0, none⟩), .int .i64 a, .string x, .agg #[.int .i64 k, .int .i64 n]] w fun e w' => (∃ b c : Int, e = .returned (.tuple #[.int .i64 b, .int .i64 c])) ∧ Two W w' p r T jt (jr + 1) B ∧ Stay B w w' :=
  two_r h (Q := fun e => ∃ b c : Int, e = .returned (.tuple #[.int .i64 b, .int .i64 c])) fun E np nt A h6 o1 o2 o3 => (rext_any r np nt E A (by have := o1.1; omega) a x (by omega) k n w h6 o2).mono fun e w' ⟨e1, np', e2, e3⟩ => ⟨e1, np', nt, A, o1, e2, by omega, e3⟩
theorem two_rali (h : Two W w p r T jt jr B) (a : Int) (x : ByteArray) (hx : x.size ≤ 100) :
    Calls Tryd.prog 14 #[.pointer (some ⟨r, 0, none⟩), .string x, .int .i64 a] w fun e w' => (∃ (s : ByteArray) (c : Int), e = .returned (.tuple #[.string s, .int .i64 c])) ∧ Two W w' p r T jt (jr + 1) B ∧ Stay B w w' :=
  two_r h (Q := fun e => ∃ (s : ByteArray) (c : Int), e = .returned (.tuple #[.string s, .int .i64 c])) fun E np nt A h6 o1 o2 o3 => (rali_any r np nt E A o1 a x hx w h6).mono fun e w' ⟨e1, A', e2, e3, e4⟩ => ⟨e1, np, nt, A', e3, o2, by omega, e4⟩

/-! The program's table alone, beside blocks of the law's own. -/
def Ek (W w : World) (p : Nat) (T : EM.Tb) (B : Nat → Prop) : Prop := Below W.heap.size W w ∧ ∃ D, Tw w p D T ∧ (∀ g, D g → W.heap.size ≤ g) ∧ ∀ b, B b → ¬ D b ∧ b < w.heap.size
theorem Ek.went (h : Ek W w p T B) (k : Went w w') : Ek W w' p T B ∧ Stay B w w' := by
  obtain ⟨hb, D, h1, h2, h3⟩ := h
  exact ⟨⟨hb.trans (Below.mono k hb.size), D, h1.below k, h2, fun b hB => ⟨(h3 b hB).1, Nat.lt_of_lt_of_le (h3 b hB).2 k.size⟩⟩, fun b t cs _ hL => hL.below k hL.lt⟩
theorem Ek.box (h : Ek W w p T B) (o : Obj) : Ek W (w.alloc o) p T (fun b => B b ∨ b = w.heap.size) := by
  obtain ⟨hb, D, h1, h2, h3⟩ := h
  have k := (Below.refl _ w).alloc (Nat.le_refl w.heap.size) o
  refine ⟨hb.trans (Below.mono k hb.size), D, h1.below k, h2, fun b hB => ?_⟩
  rcases hB with hB | hB
  · exact ⟨(h3 b hB).1, Nat.lt_of_lt_of_le (h3 b hB).2 k.size⟩
  · subst hB
    exact ⟨fun hd => by have := h1.low _ hd; omega, by simp⟩
theorem Ek.wrote {T' : EM.Tb} (h : Ek W w p T B) {Q : Ending → Prop} {f : FuncId} {args : Array Value} (hc : ∀ D, Tw w p D T → (∀ g, D g → W.heap.size ≤ g) → Below W.heap.size W w → Calls Tryd.prog f args w fun e w' => Q e ∧ Wrote p D T' w w') :
    Calls Tryd.prog f args w fun e w' => Q e ∧ Ek W w' p T' B ∧ Stay B w w' := by
  obtain ⟨hb, D, h1, h2, h3⟩ := h
  refine (hc D h1 h2 hb).mono fun e w' ⟨e1, D', q1, q2, q3⟩ => ⟨e1, ⟨hb.trans (q3.below hb.size h2), D', q1, fun g hg => ?_, fun b hB => ⟨fun hd => ?_, Nat.lt_of_lt_of_le (h3 b hB).2 q3.size⟩⟩, fun b t cs hB hL => hL.turns q3 (h3 b hB).1⟩
  · rcases q2 g hg with h | h
    · exact h2 g h
    · exact Nat.le_trans hb.size h
  · rcases q2 b hd with h | h
    · exact (h3 b hB).1 h
    · have := (h3 b hB).2; omega
theorem ek_ext (h : Ek W w p T B) (hO : EM.Ok T) (a : Int) (x : ByteArray) (hx : x.size ≤ 100) (k n : Int) :
    Calls Tryd.prog 11 #[.pointer (some ⟨p, 0, none⟩), .int .i64 a, .string x, .agg #[.int .i64 k, .int .i64 n]] w fun e w' => e = .returned (.tuple #[.int .i64 (if EM.xe T a x k = 0 then (T.P.length : Int) + 1 else 0), er (EM.xe T a x k)]) ∧ Ek W w' p (EM.ext T a x k n) B ∧ Stay B w w' :=
  h.wrote (Q := fun e => e = .returned (.tuple #[.int .i64 (if EM.xe T a x k = 0 then (T.P.length : Int) + 1 else 0), er (EM.xe T a x k)])) fun D h5 h7 hb => ext_any p D T hO a x (by omega) k n w h5
theorem ek_ali (hM : MTab W) (hT : Tab W) (h : Ek W w p T B) (hO : EM.Ok T) (a : Int) (x : ByteArray) (hx : x.size ≤ 100) :
    Calls Tryd.prog 13 #[.pointer (some ⟨p, 0, none⟩), .string x, .int .i64 a] w fun e w' => e = .returned (.tuple #[.string (if EM.ae T a x = 0 then EM.nam T x else ByteArray.empty), er (EM.ae T a x)]) ∧ Ek W w' p (EM.ali T a x) B ∧ Stay B w w' :=
  h.wrote (Q := fun e => e = .returned (.tuple #[.string (if EM.ae T a x = 0 then EM.nam T x else ByteArray.empty), er (EM.ae T a x)])) fun D h5 h7 hb => ali_any p D T hO a x (by omega) w h5 (tabs_on hM hT hb h7)
theorem ek_find (h : Ek W w p T B) (hO : EM.Ok T) (a : Int) (x : ByteArray) (hx : x.size ≤ 100) :
    Calls Tryd.prog 15 #[.pointer (some ⟨p, 0, none⟩), .int .i64 a, .string x] w fun e w' => e = .returned (.tuple #[encM.V (EM.fm T a x), er (EM.ck T a x)]) ∧ Ek W w' p T B ∧ Stay B w w' := by
  have h0 := h
  obtain ⟨hb, D, h1, h2, h3⟩ := h
  exact (find_any p D T hO a x (by omega) w h1).mono fun e w' ⟨e1, e2⟩ => ⟨e1, h0.went e2⟩
theorem ek_strip (hM : MTab W) (h : Ek W w p T B) (x : ByteArray) (hx : x.size ≤ 100) :
    Calls Tryd.prog 17 #[.pointer (some ⟨p, 0, none⟩), .string x] w fun e w' => e = .returned (.string (EM.st T x)) ∧ Ek W w' p T B ∧ Stay B w w' := by
  have h0 := h
  obtain ⟨hb, D, h1, h2, h3⟩ := h
  exact (strip_any p D T x (by omega) w h1 (hM.on hb)).mono fun e w' ⟨e1, e2⟩ => ⟨e1, h0.went e2⟩
theorem ek_same (h : Ek W w p T B) (hO : EM.Ok T) (a b : Int) (x y : ByteArray) (hx : x.size ≤ 100) (hy : y.size ≤ 100) :
    Calls Tryd.prog 16 #[.pointer (some ⟨p, 0, none⟩), .int .i64 a, .string x, .int .i64 b, .string y] w fun e w' => e = .returned (.bool (EM.sm T a x b y)) ∧ Ek W w' p T B ∧ Stay B w w' := by
  have h0 := h
  obtain ⟨hb, D, h1, h2, h3⟩ := h
  exact (same_any p D T hO a b x y (by omega) (by omega) w h1).mono fun e w' ⟨e1, e2⟩ => ⟨e1, h0.went e2⟩
theorem Two.ek (h : Two W w p r T jt jr B) : Ek W w p T (fun b => b < W.heap.size) := by
  obtain ⟨hb, h1, h2, h3, h4, D, E, np, nt, A, h5, h6, h7, -⟩ := h
  exact ⟨hb, D, h5, h7, fun b hB => ⟨fun hd => by have := h7 b hd; omega, Nat.lt_of_lt_of_le hB hb.size⟩⟩
end
end Go.Proofs.YtbkjmmeipbbaaaaDoor
