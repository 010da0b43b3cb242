/- Package match: those that make the closures. -/
import Derived.Test.YtbomodendobnkaaGreatQ18
import Derived.Laws.EntriesVeiled
namespace Go.Proofs.YtbomodendobnkaaGreat
open Go.ChangeShapes Go.WideShapes Go.ChangeAt Go.RowKit Go.Deep
open MM (Bl Bm)

def vrv (nm : List UInt8) (dp : Int) (u : Value) : Value := .agg #[.string ⟨nm.toArray⟩, .int .i64 dp, u]
set_option maxRecDepth 100000 in
theorem whole_any (w : World) (nm : List UInt8) :
    Calls Tryz.prog 46 #[.string ⟨nm.toArray⟩] w fun e w' => ∃ u, e = .returned (vrv nm 0 u) ∧ FindAt w' (fun g => w.heap.size ≤ g) u (MM.whole nm).fd ∧ Went w w' := by
  go_enter Tryz.func46, Tryz.ntmps46
  go_wp2_with fail
  have h2 := two_boxes w #[.string ⟨nm.toArray⟩] #[.string ⟨nm.toArray⟩, .int .i64 0, .func (.func 66) #[] #[.pointer (some ⟨w.heap.size, 0, none⟩)]] 9 60
  have hFA : FindAt ((w.alloc (.cells #[.string ⟨nm.toArray⟩] 9)).alloc (.cells #[.string ⟨nm.toArray⟩, .int .i64 0, .func (.func 66) #[] #[.pointer (some ⟨w.heap.size, 0, none⟩)]] 60)) (fun g => w.heap.size ≤ g) (.func (.func 66) #[] #[.pointer (some ⟨w.heap.size, 0, none⟩)]) (MM.whole nm).fd := by
    refine ⟨_, _, rfl, enters_of Tryz.func66 (by kernel_rfl) rfl, fun w2 d v b k hv hs hb => ?_⟩
    simp only [MM.whole, Option.some.injEq] at hb
    subst hb
    exact whole_call w2 d v nm w.heap.size (k.lies h2.2.1 (Nat.le_refl _)) hv hs
  exact bodyPost_ret (v := vrv nm 0 (.func (.func 66) #[] #[.pointer (some ⟨w.heap.size, 0, none⟩)])) (by simp [results, Tryz.results46, go_sem, vrv]) rfl ⟨_, rfl, hFA, h2.1⟩
theorem Kp.went {w w' w2 : World} {S S' : Nat → Prop} (h : Below w.heap.size w w') (k : Kp S' w' w2) (hS : ∀ g, g < w.heap.size → S g → S' g) : Kp S w w2 :=
  ⟨Nat.le_trans h.size k.size, fun g hg hs => (k.block g (Nat.lt_of_lt_of_le hg h.size) (hS g hg hs)).trans (h.block g hg)⟩
theorem four_boxes (w : World) (vs us ts rs : Array Value) (t u s r : TypeId) : Below w.heap.size w ((((w.alloc (.cells vs t)).alloc (.cells us u)).alloc (.cells ts s)).alloc (.cells rs r)) ∧ Lies ((((w.alloc (.cells vs t)).alloc (.cells us u)).alloc (.cells ts s)).alloc (.cells rs r)) w.heap.size t vs.toList
    ∧ Lies ((((w.alloc (.cells vs t)).alloc (.cells us u)).alloc (.cells ts s)).alloc (.cells rs r)) (w.heap.size + 1) u us.toList ∧ Lies ((((w.alloc (.cells vs t)).alloc (.cells us u)).alloc (.cells ts s)).alloc (.cells rs r)) (w.heap.size + 1 + 1) s ts.toList := by
  obtain ⟨h1, h2, h3, h4⟩ := three_boxes w vs us ts t u s
  exact ⟨h1.alloc (by simp; omega) _, h2.alloc _, h3.alloc _, h4.alloc _⟩
set_option maxRecDepth 100000 in
set_option maxHeartbeats 2000000 in
theorem inOne_any (w : World) (S : Nat → Prop) (fv lv : Value) (fd : RM.Dm → Option Bm) (lk : RM.Dm → RM.Dl) (i : Nat) (nm : List UInt8) (dp : Int) (hf : FindAt w S fv fd) (hl : LookAt w S lv lk)
    (hs : ∀ x j y, SM.sz x.is ≤ 5000 → (lk x).at_ j = some y → SM.sz y.is ≤ 5000) :
    Calls Tryz.prog 70 #[vrv nm dp fv, lv, .int .i64 i] w fun e w' => ∃ u, e = .returned (vrv nm dp u) ∧ FindAt w' (fun g => S g ∨ w.heap.size ≤ g) u (MM.oneF lk i fd) ∧ Went w w' := by
  have hf' := Lib.hid hf
  have hl' := Lib.hid hl
  obtain ⟨kf, lf, rfl, -⟩ := hf
  obtain ⟨kl, ll, rfl, -⟩ := hl
  unfold vrv
  go_enter Tryz.func70, Tryz.ntmps70
  go_wp2_with fail
  have h4 := four_boxes w #[.string ⟨nm.toArray⟩, .int .i64 dp, .func (.func kf) #[] lf] #[.func (.func kl) #[] ll] #[.int .i64 i] #[.string ⟨nm.toArray⟩, .int .i64 dp, .func (.func 83) #[] #[.pointer (some ⟨w.heap.size, 0, none⟩), .pointer (some ⟨w.heap.size + 1, 0, none⟩), .pointer (some ⟨w.heap.size + 1 + 1, 0, none⟩)]] 60 141 3 60
  have hFA : FindAt ((((w.alloc (.cells #[.string ⟨nm.toArray⟩, .int .i64 dp, .func (.func kf) #[] lf] 60)).alloc (.cells #[.func (.func kl) #[] ll] 141)).alloc (.cells #[.int .i64 i] 3)).alloc (.cells #[.string ⟨nm.toArray⟩, .int .i64 dp, (.func (.func 83) #[] #[.pointer (some ⟨w.heap.size, 0, none⟩), .pointer (some ⟨w.heap.size + 1, 0, none⟩), .pointer (some ⟨w.heap.size + 1 + 1, 0, none⟩)])] 60)) (fun g => S g ∨ w.heap.size ≤ g) (.func (.func 83) #[] #[.pointer (some ⟨w.heap.size, 0, none⟩), .pointer (some ⟨w.heap.size + 1, 0, none⟩), .pointer (some ⟨w.heap.size + 1 + 1, 0, none⟩)]) (MM.oneF lk i fd) := by
    refine ⟨_, _, rfl, enters_of Tryz.func83 (by kernel_rfl) rfl, fun w2 d v b k hv hsd hb => ?_⟩
    have kS : Kp S w w2 := Kp.went h4.1 k (fun g _ hg => .inl hg)
    exact one_call w2 S _ _ fd lk i w.heap.size (w.heap.size + 1) (w.heap.size + 1 + 1) _ _ d v b (hf'.out.kp kS) (hl'.out.kp kS) (k.lies h4.2.1 (.inr (Nat.le_refl _))) (k.lies h4.2.2.1 (.inr (by omega))) (k.lies h4.2.2.2 (.inr (by omega))) hv (fun j y => hs d j y hsd) hb
  exact bodyPost_ret (v := vrv nm dp (.func (.func 83) #[] #[.pointer (some ⟨w.heap.size, 0, none⟩), .pointer (some ⟨w.heap.size + 1, 0, none⟩), .pointer (some ⟨w.heap.size + 1 + 1, 0, none⟩)])) (by simp [results, Tryz.results70, go_sem, vrv]) rfl ⟨_, rfl, hFA, h4.1⟩
set_option maxRecDepth 100000 in
set_option maxHeartbeats 2000000 in
theorem inAll_any (w : World) (S : Nat → Prop) (fv lv : Value) (fd : RM.Dm → Option Bm) (lk : RM.Dm → RM.Dl) (nm : List UInt8) (dp : Nat) (hdp : dp ≤ 1000000) (hf : FindAt w S fv fd) (hl : LookAt w S lv lk)
    (hs : ∀ x j y, SM.sz x.is ≤ 5000 → (lk x).at_ j = some y → SM.sz y.is ≤ 5000) (hn : ∀ x, SM.sz x.is ≤ 5000 → (lk x).len ≤ 5000) :
    Calls Tryz.prog 69 #[vrv nm dp fv, lv] w fun e w' => ∃ u, e = .returned (vrv nm ((dp : Int) + 1) u) ∧ FindAt w' (fun g => S g ∨ w.heap.size ≤ g) u (MM.allF lk nm ((dp : Int) + 1) fd) ∧ Went w w' := by
  have hf' := Lib.hid hf
  have hl' := Lib.hid hl
  obtain ⟨kf, lf, rfl, -⟩ := hf
  obtain ⟨kl, ll, rfl, -⟩ := hl
  unfold vrv
  have h4 := four_boxes w #[.string ⟨nm.toArray⟩, .int .i64 dp, .func (.func kf) #[] lf] #[.func (.func kl) #[] ll] #[.string ⟨nm.toArray⟩, .int .i64 ((dp : Int) + 1), (.func (.func 81) #[] #[.pointer (some ⟨w.heap.size + 1, 0, none⟩), .pointer (some ⟨w.heap.size, 0, none⟩), .pointer (some ⟨w.heap.size + 1 + 1 + 1, 0, none⟩)])] #[.int .i64 ((dp : Int) + 1)] 60 141 60 3
  have h5 := Lies.made (((w.alloc (.cells #[.string ⟨nm.toArray⟩, .int .i64 dp, .func (.func kf) #[] lf] 60)).alloc (.cells #[.func (.func kl) #[] ll] 141)).alloc (.cells #[.string ⟨nm.toArray⟩, .int .i64 ((dp : Int) + 1), (.func (.func 81) #[] #[.pointer (some ⟨w.heap.size + 1, 0, none⟩), .pointer (some ⟨w.heap.size, 0, none⟩), .pointer (some ⟨w.heap.size + 1 + 1 + 1, 0, none⟩)])] 60)) 3 #[.int .i64 ((dp : Int) + 1)]
  rw [show (((w.alloc (.cells #[.string ⟨nm.toArray⟩, .int .i64 dp, .func (.func kf) #[] lf] 60)).alloc (.cells #[.func (.func kl) #[] ll] 141)).alloc (.cells #[.string ⟨nm.toArray⟩, .int .i64 ((dp : Int) + 1), (.func (.func 81) #[] #[.pointer (some ⟨w.heap.size + 1, 0, none⟩), .pointer (some ⟨w.heap.size, 0, none⟩), .pointer (some ⟨w.heap.size + 1 + 1 + 1, 0, none⟩)])] 60)).heap.size = w.heap.size + 1 + 1 + 1 by simp] at h5
  have hFA : FindAt ((((w.alloc (.cells #[.string ⟨nm.toArray⟩, .int .i64 dp, .func (.func kf) #[] lf] 60)).alloc (.cells #[.func (.func kl) #[] ll] 141)).alloc (.cells #[.string ⟨nm.toArray⟩, .int .i64 ((dp : Int) + 1), (.func (.func 81) #[] #[.pointer (some ⟨w.heap.size + 1, 0, none⟩), .pointer (some ⟨w.heap.size, 0, none⟩), .pointer (some ⟨w.heap.size + 1 + 1 + 1, 0, none⟩)])] 60)).alloc (.cells #[.int .i64 ((dp : Int) + 1)] 3)) (fun g => S g ∨ w.heap.size ≤ g) (.func (.func 81) #[] #[.pointer (some ⟨w.heap.size + 1, 0, none⟩), .pointer (some ⟨w.heap.size, 0, none⟩), .pointer (some ⟨w.heap.size + 1 + 1 + 1, 0, none⟩)]) (MM.allF lk nm ((dp : Int) + 1) fd) := by
    refine ⟨_, _, rfl, enters_of Tryz.func81 (by kernel_rfl) rfl, fun w2 d v b k hv hsd hb => ?_⟩
    have kS : Kp S w w2 := Kp.went h4.1 k (fun g _ hg => .inl hg)
    exact all_call w2 S _ _ fd lk nm ((dp : Int) + 1) w.heap.size (w.heap.size + 1) (w.heap.size + 1 + 1 + 1) _ d v b (hf'.out.kp kS) (hl'.out.kp kS) (k.lies h4.2.1 (.inr (Nat.le_refl _))) (k.lies h4.2.2.1 (.inr (by omega))) (k.lies h5 (.inr (by omega))) hv (fun j y => hs d j y hsd) (hn d hsd) hb
  go_enter Tryz.func69, Tryz.ntmps69
  go_wp2_with fail
  exact bodyPost_ret (v := vrv nm ((dp : Int) + 1) (.func (.func 81) #[] #[.pointer (some ⟨w.heap.size + 1, 0, none⟩), .pointer (some ⟨w.heap.size, 0, none⟩), .pointer (some ⟨w.heap.size + 1 + 1 + 1, 0, none⟩)])) (by simp [results, Tryz.results69, go_sem, vrv]) rfl ⟨_, rfl, hFA, h4.1⟩
end Go.Proofs.YtbomodendobnkaaGreat

/- Package match: rows of variables of one's own. -/
namespace Go.Proofs.YtbomodendobnkaaGreat
open Go.ChangeShapes Go.WideShapes Go.ChangeAt Go.RowKit Go.Deep
open MM (Bl Bm Var)

theorem Tryz.infoVar : (Tryz.prog.info? 60).map (fun i => (i.zero, i.size, i.bytes)) = some (some (.agg #[.string ⟨#[]⟩, .int .i64 0, .nilFunc]), 3, 32) := by kernel_rfl
def vcs (v : Var) (u : Value) : List Value := [.string ⟨v.nm.toArray⟩, .int .i64 (v.dp : Int), u]
/-- a row's cells: variables whose closures find so as long as the blocks of S stay -/
def VAt (w : World) (S : Nat → Prop) : List Var → List Value → Prop
  | [], cs => cs = []
  | v :: r, cs => ∃ u c2, cs = vcs v u ++ c2 ∧ FindAt w S u v.fd ∧ VAt w S r c2
/-- v is a row of these variables, of one's own; it, and what the closures need, lie in blocks of S -/
def VOwn (w : World) (S : Nat → Prop) (v : Value) (vs : List Var) : Prop :=
  ∃ cs, w.ownsRow 0 60 3 v vs.length cs ∧ (∀ g, v.ownBlock = some g → S g) ∧ VAt w (fun g => S g ∧ v.ownBlock ≠ some g) vs cs
section
variable {w w' : World} {v : Value} {S S' : Nat → Prop}
theorem VAt.kp (k : Kp S w w') : ∀ {l : List Var} {cs : List Value}, VAt w S l cs → VAt w' S l cs
  | [], _, h => h
  | _ :: _, _, ⟨u, c2, h1, h2, h3⟩ => ⟨u, c2, h1, h2.kp k, VAt.kp k h3⟩
theorem VAt.mono (hd : ∀ g, g < w.heap.size → S g → S' g) : ∀ {l : List Var} {cs : List Value}, VAt w S l cs → VAt w S' l cs
  | [], _, h => h
  | _ :: _, _, ⟨u, c2, h1, h2, h3⟩ => ⟨u, c2, h1, h2.mono hd, VAt.mono hd h3⟩
theorem VAt.app : ∀ {l e : List Var} {cs es : List Value}, VAt w S l cs → VAt w S e es → VAt w S (l ++ e) (cs ++ es)
  | [], _, cs, _, h, k => by rw [show cs = [] from h]; exact k
  | _ :: _, _, _, _, ⟨u, c2, h1, h2, h3⟩, k => ⟨u, _, by rw [h1, List.append_assoc], h2, VAt.app h3 k⟩
theorem VAt.at_ : ∀ {l : List Var} {cs : List Value} {i : Nat} {x : Var}, VAt w S l cs → l[i]? = some x → ∃ u, FindAt w S u x.fd ∧ cs[i * 3]? = some (.string ⟨x.nm.toArray⟩) ∧ cs[i * 3 + 1]? = some (.int .i64 (x.dp : Int)) ∧ cs[i * 3 + 2]? = some u
  | [], _, _, _, _, hx => by simp at hx
  | v :: r, cs, 0, x, ⟨u, c2, h1, h2, h3⟩, hx => by
    simp only [List.getElem?_cons_zero, Option.some.injEq] at hx
    subst hx
    subst h1
    exact ⟨u, h2, rfl, rfl, rfl⟩
  | v :: r, cs, i + 1, x, ⟨u, c2, h1, h2, h3⟩, hx => by
    obtain ⟨u', g1, g2, g3, g4⟩ := VAt.at_ h3 (show r[i]? = some x by simpa using hx)
    subst h1
    have e : ∀ j, (vcs v u ++ c2)[(i + 1) * 3 + j]? = c2[i * 3 + j]? := fun j => by
      rw [List.getElem?_append_right (by simp [vcs]; omega)]
      congr 1
      simp [vcs]; omega
    exact ⟨u', g1, by rw [← g2]; exact e 0, by rw [← g3]; exact e 1, by rw [← g4]; exact e 2⟩
theorem VOwn.nil (w : World) (S : Nat → Prop) : VOwn w S (.slice none 0 0) [] := ⟨[], own_none w 0 _ 3, (fun g hg => by cases hg), rfl⟩
theorem VOwn.lt {l : List Var} (h : VOwn w S v l) : ∀ g, v.ownBlock = some g → S g ∧ g < w.heap.size := by
  obtain ⟨cs, h1, h2, _⟩ := h
  exact fun g hg => ⟨h2 g hg, (World.ownsRow.lt h1 g hg).2⟩
theorem VOwn.read {l : List Var} (h : VOwn w S v l) : ∃ A c, v = .slice A l.length c := by
  obtain ⟨cs, h1, _⟩ := h
  obtain ⟨A, c, e, _⟩ := own_read h1
  exact ⟨A, c, e⟩
theorem VOwn.len {l : List Var} (h : VOwn w S v l) : l.length ≤ 9223372036854775807 := by
  obtain ⟨cs, h1, _⟩ := h
  exact own_len h1
theorem VOwn.below {l : List Var} (h : VOwn w S v l) (k : Below w.heap.size w w') : VOwn w' S v l := by
  obtain ⟨cs, h1, h2, h3⟩ := h
  exact ⟨cs, own_turns h1 (Turns.of_below k (fun _ => False)) (fun _ _ h => h), h2, h3.kp (Kp.of_below k)⟩
theorem VOwn.kp {l : List Var} (h : VOwn w S v l) (k : Kp S w w') : VOwn w' S v l := by
  have hlt := h.lt
  obtain ⟨cs, h1, h2, h3⟩ := h
  refine ⟨cs, ⟨h1.1, ?_⟩, h2, h3.kp (k.mono fun g _ hs => hs.1)⟩
  rcases h1.2 with h4 | ⟨g, cap, cur, hv, hg, hh, r⟩
  · exact .inl h4
  · have ho : v.ownBlock = some g := by rw [hv]; rfl
    exact .inr ⟨g, cap, cur, hv, hg, (k.block g (hlt g ho).2 (h2 g ho)).trans hh, r⟩
theorem VOwn.mono {l : List Var} (h : VOwn w S v l) (hS : ∀ g, g < w.heap.size → S g → S' g) : VOwn w S' v l := by
  have hlt := h.lt
  obtain ⟨cs, h1, h2, h3⟩ := h
  exact ⟨cs, h1, fun g hg => hS g (hlt g hg).2 (h2 g hg), h3.mono (fun g hg hs => ⟨hS g hg hs.1, hs.2⟩)⟩
/-- the cells of a row's variable -/
theorem VOwn.at_ {A : Option Addr} {n c : Nat} {l : List Var} (h : VOwn w S (.slice A n c) l) {i : Nat} {x : Var} (hx : l[i]? = some x) :
    ∃ g u, A = some ⟨g, 0, none⟩ ∧ g < w.heap.size ∧ S g ∧ w.cell? ⟨g, i * 3, none⟩ = some (.string ⟨x.nm.toArray⟩) ∧ w.cell? ⟨g, i * 3 + 1, none⟩ = some (.int .i64 (x.dp : Int)) ∧ w.cell? ⟨g, i * 3 + 2, none⟩ = some u ∧ FindAt w (fun g' => S g' ∧ g' ≠ g) u x.fd := by
  obtain ⟨cs, h1, h2, h3⟩ := h
  obtain ⟨u, g1, g2, g3, g4⟩ := h3.at_ hx
  have hl : cs.length = l.length * 3 := h1.1
  have hi : i < l.length := (List.getElem?_eq_some_iff.1 hx).1
  obtain ⟨A', c', e, hr⟩ := own_read h1
  injection e with e1 e2 e3
  subst e1
  obtain ⟨g, hg, _, hlt, _⟩ := hr (i * 3) (by omega)
  subst hg
  have at' : ∀ j, j < l.length * 3 → w.cell? ⟨g, j, none⟩ = cs[j]? := fun j hj => by
    obtain ⟨g', hg', _, _, h'⟩ := hr j hj
    cases hg'
    exact h'
  exact ⟨g, u, rfl, hlt, h2 g rfl, by rw [at' _ (by omega), g2], by rw [at' _ (by omega), g3], by rw [at' _ (by omega), g4], g1.mono (fun g' _ hs => ⟨hs.1, fun e => hs.2 (by rw [e]; rfl)⟩)⟩
/-- one more behind one's own row -/
theorem vown_push {A : Option Addr} {j c : Nat} {out : List Var} {x : Var} {u : Value} {S3 : Nat → Prop} (e : out.length = j) (h : VOwn w S (.slice A j c) out) (hu : FindAt w S3 u x.fd) (hS : S (w.heap.size + 1))
    (h3 : ∀ g, g < w.heap.size → S3 g → S g ∧ (Value.slice A j c).ownBlock ≠ some g) :
    ∃ cs, (w.alloc (.cells (vcs x u).toArray 60)).ownsRow 0 60 3 (.slice A j c) j cs
      ∧ (∀ y ∈ vcs x u, y.oneCell' = true)
      ∧ ∀ v9 w9, w9.ownsRow 0 60 3 v9 (j + 1) (cs ++ vcs x u) → (w.alloc (.cells (vcs x u).toArray 60)).grownBy w9 (Value.slice A j c).ownBlock →
        (v9.ownBlock = (Value.slice A j c).ownBlock ∨ v9.ownBlock = some (w.alloc (.cells (vcs x u).toArray 60)).heap.size) → VOwn w9 S v9 (out ++ [x]) := by
  have hl := h.lt
  obtain ⟨cs, h1, h2, h4⟩ := h
  rw [e] at h1
  have hone : VAt w (fun g => S g ∧ (Value.slice A j c).ownBlock ≠ some g) [x] (vcs x u) := ⟨u, [], by simp, hu.mono h3, rfl⟩
  have hu1 : u.oneCell' = true := by
    obtain ⟨k, lb, rfl, _⟩ := hu
    rfl
  refine ⟨cs, own_turns h1 ((Turns.refl (fun _ => False) _).alloc _) (fun _ _ h => h), ?_, fun v9 w9 h9 hg9 hat9 => ?_⟩
  · intro y hy
    have hy' : y = .string ⟨x.nm.toArray⟩ ∨ y = .int .i64 (x.dp : Int) ∨ y = u := by simpa [vcs] using hy
    rcases hy' with h | h | h
    · rw [h]; rfl
    · rw [h]; rfl
    · rw [h]; exact hu1
  have T := Turns.appendedS hg9
  refine ⟨cs ++ vcs x u, by rw [List.length_append, List.length_singleton, e]; exact h9, fun g hg => ?_, ?_⟩
  · rcases hat9 with e1 | e1
    · rw [e1] at hg; exact (hl g hg).1
    · rw [e1] at hg
      injection hg with hg
      subst hg
      simpa using hS
  · have k1 : Kp (fun g => (S g ∧ (Value.slice A j c).ownBlock ≠ some g) ∧ g < w.heap.size) w w9 := (Kp.of_below ((Below.refl _ w).alloc (Nat.le_refl _) _)).trans (Kp.of_turns T (fun g _ hs => hs.1.2))
    refine VAt.mono ?_ (((h4.app hone).mono (S' := fun g => (S g ∧ (Value.slice A j c).ownBlock ≠ some g) ∧ g < w.heap.size) (fun g hg hs => ⟨hs, hg⟩)).kp k1)
    intro g _ hs
    refine ⟨hs.1.1, ?_⟩
    rcases hat9 with e1 | e1
    · rw [e1]; exact hs.1.2
    · rw [e1]
      intro hh
      injection hh with hh
      have := hs.2
      simp at hh
      omega
end
end Go.Proofs.YtbomodendobnkaaGreat

/- Package match: the variables of what stands in a row. -/
namespace Go.Proofs.YtbomodendobnkaaGreat
open Go.ChangeShapes Go.WideShapes Go.ChangeAt Go.RowKit Go.Deep
open MM (Bl Bm Var)

def VarN (B0 : Nat) (w : World) (R : Option (List Var)) (e : Ending) (w' : World) : Prop :=
  Went w w' ∧ ((R = none ∧ e = .returned (.tuple #[.slice none 0 0, .bool false])) ∨
    ∃ vs A c, R = some vs ∧ e = .returned (.tuple #[.slice A vs.length c, .bool true]) ∧ VOwn w' (fun g => g < B0 ∨ (w.heap.size ≤ g ∧ g < w'.heap.size)) (.slice A vs.length c) vs ∧ ∀ g, (Value.slice A vs.length c).ownBlock = some g → w.heap.size ≤ g)
/-- a pattern in memory, no more than f levels deep -/
structure Pt (w0 : World) (f : Nat) (x : RM.Dm) (v : Value) : Prop where
  v : Cn w0 v x.is
  s : x.s.length ≤ maxLen
  b : BdS x.is
  z : SM.sz x.is ≤ 5000
  d : SM.hi x.is + 1 ≤ f
def VarsOk (w0 : World) (q : Nat) (n : MM.NM) (f : Nat) : Prop := ∀ (w : World) (x : RM.Dm) (v : Value), Below w0.heap.size w0 w → Pt w0 f x v → Calls Tryz.prog 29 #[.map (some q), dtv x v] w (VarN w0.heap.size w (MM.vars n f x))
/-! ### parts and their sizes -/
def szp (r : MM.Row) (j : Nat) : Nat := (if j ≤ 0 then SM.sz r.f else 0) + (if j ≤ 1 then SM.sz r.m else 0) + (if j ≤ 2 then SM.sz r.b else 0) + (if j ≤ 3 then SM.sz r.t else 0)
theorem szp_step (r : MM.Row) {j : Nat} (h : j < 4) : szp r j = SM.sz (r.part j) + szp r (j + 1) := by
  rcases (show j = 0 ∨ j = 1 ∨ j = 2 ∨ j = 3 by omega) with rfl | rfl | rfl | rfl <;> simp [szp, MM.Row.part] <;> omega
theorem part_in (n : MM.NM) (x : RM.Dm) {j i : Nat} {y : RM.Dm} (h : ((MM.rowp n x).part j).at_ i = some y) : ∃ k, x.is.at_ k = some y := by
  have h1 : ∀ {l : RM.Dl} {a i : Nat}, (SM.tk l a).at_ i = some y → l.at_ i = some y := fun {l a i} h => by
    by_cases hi : i < a
    · rwa [MM.at_tk l a i hi] at h
    · have := MM.at_lt h
      have : (SM.tk l a).len ≤ a := by
        clear h
        induction l generalizing a i with
        | nil => cases a <;> simp [SM.tk, RM.Dl.len]
        | cons k m s is r _ ih =>
          cases a with
          | zero => simp [SM.tk, RM.Dl.len]
          | succ a =>
            simp only [SM.tk, RM.Dl.len]
            by_cases h0 : ∃ i', ¬ i' < a ∧ i' < (SM.tk r a).len
            · obtain ⟨i', h2, h3⟩ := h0
              have := ih h2 h3
              omega
            · have : ¬ a < (SM.tk r a).len := fun h => h0 ⟨a, by omega, h⟩
              omega
      omega
  have h2 : ∀ {l : RM.Dl} {a i : Nat}, (SM.dr l a).at_ i = some y → l.at_ (a + i) = some y := fun {l a i} h => by rwa [MM.at_dr] at h
  have h3 : ∀ {i : Nat}, (MM.items x).at_ i = some y → ∃ k, x.is.at_ k = some y := fun h => ⟨_, h1 h⟩
  unfold MM.rowp at h
  split at h
  · match j, h with
    | 0, h => exact h3 h
    | 1, h => simp [MM.Row.part, RM.Dl.at_] at h
    | 2, h => simp [MM.Row.part, RM.Dl.at_] at h
    | j + 3, h => exact ⟨_, h2 (show (SM.dr x.is (MM.cut x)).at_ i = some y from h)⟩
  · match j, h with
    | 0, h => exact h3 (h1 h)
    | 1, h => exact h3 (h2 (h1 h))
    | 2, h => exact h3 (h2 h)
    | j + 3, h => exact ⟨_, h2 (show (SM.dr x.is (MM.cut x)).at_ i = some y from h)⟩
theorem hi_in' {d : RM.Dl} {i : Nat} {x : RM.Dm} (h : d.at_ i = some x) : SM.hi x.is + 1 ≤ SM.hi d := by
  have h1 := SM.hi_at h
  have h2 := SM.hi_in d i
  omega
theorem Pt.in_ {w0 : World} {f : Nat} {x y : RM.Dm} {v u : Value} {k : Nat} (h : Pt w0 (f + 1) x v) (hy : x.is.at_ k = some y) (hu : Cn w0 u y.is) : Pt w0 f y u :=
  ⟨hu, (h.b.at_ hy).2.2.1, (h.b.at_ hy).2.2.2, by have := SM.sz_in hy; have := h.z; omega, by have := hi_in' hy; have := h.d; omega⟩
theorem RowAt.part {w : World} {r : MM.Row} {Fa Ma Ba Ta : Option Addr} {fn mn bn tn ca cm cb ct : Nat} (h : RowAt w r (.slice Fa fn ca) (.slice Ma mn cm) (.slice Ba bn cb) (.slice Ta tn ct)) {j : Nat} (hj : j < 4) :
    ∃ P pc, (∀ w', (Instr.index 78 (.agg #[.slice Fa fn ca, .slice Ma mn cm, .slice Ba bn cb, .slice Ta tn ct]) (.int .i64 (j : Int))).run Tryz.prog w' = .ok (.slice P (r.part j).len pc) w') ∧ Cn w (.slice P (r.part j).len pc) (r.part j) := by
  have e : ∀ {A : Option Addr} {n c : Nat} {d : RM.Dl}, Cn w (.slice A n c) d → n = d.len := fun h => by
    obtain ⟨_, _, e, _⟩ := h
    injection e
  rcases (show j = 0 ∨ j = 1 ∨ j = 2 ∨ j = 3 by omega) with rfl | rfl | rfl | rfl
  · refine ⟨Fa, ca, fun w' => ?_, (e h.f) ▸ h.f⟩
    rw [show (r.part 0).len = fn from (e h.f).symm]; kernel_rfl
  · refine ⟨Ma, cm, fun w' => ?_, (e h.m) ▸ h.m⟩
    rw [show (r.part 1).len = mn from (e h.m).symm]; kernel_rfl
  · refine ⟨Ba, cb, fun w' => ?_, (e h.b) ▸ h.b⟩
    rw [show (r.part 2).len = bn from (e h.b).symm]; kernel_rfl
  · refine ⟨Ta, ct, fun w' => ?_, (e h.t) ▸ h.t⟩
    rw [show (r.part 3).len = tn from (e h.t).symm]; kernel_rfl
theorem sz_look (r : MM.Row) (k : Int) (part : Nat) (d : RM.Dm) (j : Nat) (y : RM.Dm) (h : (MM.lookAt r k part d).at_ j = some y) : SM.sz y.is ≤ SM.sz d.is := by
  have tk1 : ∀ {l : RM.Dl} {a i : Nat}, (SM.tk l a).at_ i = some y → ∃ i', l.at_ i' = some y := fun {l a i} h => by
    induction l generalizing a i with
    | nil => cases a <;> simp [SM.tk, RM.Dl.at_] at h
    | cons k m s is r _ ih =>
      cases a with
      | zero => simp [SM.tk, RM.Dl.at_] at h
      | succ a =>
        cases i with
        | zero => exact ⟨0, h⟩
        | succ i =>
          obtain ⟨i', h'⟩ := ih (show (SM.tk r a).at_ i = some y from h)
          exact ⟨i' + 1, h'⟩
  have dr1 : ∀ {l : RM.Dl} {a i : Nat}, (SM.dr l a).at_ i = some y → ∃ i', l.at_ i' = some y := fun {l a i} h => ⟨a + i, by rwa [MM.at_dr] at h⟩
  have it : ∀ {i : Nat}, (MM.items d).at_ i = some y → SM.sz y.is ≤ SM.sz d.is := fun h => by
    obtain ⟨i', h'⟩ := tk1 h
    have := SM.sz_in h'
    omega
  have be : ∀ (e : Nat), y = MM.behind d e → SM.sz y.is ≤ SM.sz d.is := fun e hy => by
    subst hy
    unfold MM.behind
    split
    · rename_i hh
      obtain ⟨z, hz⟩ := d.is.at_some e (by omega)
      rw [hz]
      have := SM.sz_in hz
      show SM.sz z.is ≤ _
      omega
    · have := MM.sz_tk_dr d.is e
      show SM.sz (SM.dr d.is e) ≤ _
      omega
  have two : ∀ {a b i : Nat}, (SM.tk (SM.dr (MM.items d) a) b).at_ i = some y → SM.sz y.is ≤ SM.sz d.is := fun h => by
    obtain ⟨i1, h1⟩ := tk1 h
    obtain ⟨i2, h2⟩ := dr1 h1
    exact it h2
  have one : ∀ {a i : Nat}, (SM.tk (MM.items d) a).at_ i = some y → SM.sz y.is ≤ SM.sz d.is := fun h => by
    obtain ⟨i1, h1⟩ := tk1 h
    exact it h1
  have h' : ((MM.lay r k d).1.part part).at_ j = some y := h
  unfold MM.lay at h'
  split at h'
  · match part, h' with
    | 0, h' => simp [MM.Row.part, RM.Dl.at_] at h'
    | 1, h' => simp [MM.Row.part, RM.Dl.at_] at h'
    | 2, h' => simp [MM.Row.part, RM.Dl.at_] at h'
    | p + 3, h' => simp [MM.Row.part, RM.Dl.at_] at h'
  split at h'
  · match part, h' with
    | 0, h' => exact one h'
    | 1, h' => exact two h'
    | 2, h' => exact two h'
    | p + 3, h' =>
      have h2 : (RM.Dl.one (MM.behind d (MM.mid r d + r.b.len))).at_ j = some y := h'
      cases j with
      | zero =>
        simp only [RM.Dl.one, RM.Dl.at_, Option.some.injEq] at h2
        exact be _ h2.symm
      | succ j => simp [RM.Dl.one, RM.Dl.at_] at h2
  · match part, h' with
    | 0, h' => exact one h'
    | 1, h' => exact two h'
    | 2, h' => exact two h'
    | p + 3, h' => simp [MM.Row.part, RM.Dl.at_] at h'
theorem len_tk (l : RM.Dl) (a : Nat) : (SM.tk l a).len ≤ l.len := by
  induction l generalizing a with
  | nil => cases a <;> simp [SM.tk, RM.Dl.len]
  | cons k m s is r _ ih =>
    cases a with
    | zero => simp [SM.tk, RM.Dl.len]
    | succ a =>
      simp only [SM.tk, RM.Dl.len]
      have := ih a
      omega
theorem look_len (r : MM.Row) (k : Int) (d : RM.Dm) : (MM.lookAt r k 1 d).len ≤ SM.sz d.is := by
  have h1 := SM.len_sz d.is
  have h2 := MM.items_len d
  have h3 := MM.cut_le d
  have two : ∀ {a b : Nat}, (SM.tk (SM.dr (MM.items d) a) b).len ≤ SM.sz d.is := fun {a b} => by
    have e1 := len_tk (SM.dr (MM.items d) a) b
    have e2 := SM.dr_len (MM.items d) a
    omega
  show ((MM.lay r k d).1.part 1).len ≤ _
  unfold MM.lay
  split
  · simp [MM.Row.part, RM.Dl.len]
  split
  · exact two
  · exact two
end Go.Proofs.YtbomodendobnkaaGreat
