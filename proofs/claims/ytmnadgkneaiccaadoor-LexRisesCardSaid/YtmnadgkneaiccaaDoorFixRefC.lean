/- What the document's own parser gives. -/
import Derived.Test.YtmnadgkneaiccaaDoorFixRef
import Derived.Test.YtmnadgkneaiccaaDoorFixParse
namespace Go.Proofs.YtmnadgkneaiccaaDoor
open Go.ChangeShapes Go.WideShapes Go.ChangeAt Go.RowKit

/-- the digits so far: what they come to, or that it is too much -/
def Far (t : ByteArray) (k : Nat) (v : Int) (f : Bool) : Prop :=
  FM.digs (t.data.toList.take k) = true ∧ (f = false ∧ v = FM.val (t.data.toList.take k) ∨ f = true ∧ 1152921504606846980 ≤ FM.val (t.data.toList.take k))
theorem far_start (t : ByteArray) : Far t 0 0 false := ⟨by simp [FM.digs], .inl ⟨rfl, by simp [FM.val]⟩⟩
theorem far_step {t : ByteArray} {k : Nat} {v : Int} {f : Bool} (h : k < t.size) (H : Far t k v f) (h1 : 48 ≤ (t[k].toNat : Int)) (h2 : (t[k].toNat : Int) ≤ 57)
    (hv : v ≤ 115292150460684697) : Far t (k + 1) (v * 10 + ((t[k].toNat : Int) - 48)) f := by
  obtain ⟨hd, hf⟩ := H
  refine ⟨digs_yes_step h hd h1 h2, ?_⟩
  have e : FM.val (t.data.toList.take (k + 1)) = FM.val (t.data.toList.take k) * 10 + ((t[k].toNat : Int) - 48) := by
    rw [FM.take_snoc t k h, FM.val_snoc]
  rw [e]
  rcases hf with ⟨rfl, rfl⟩ | ⟨rfl, hf⟩
  · exact .inl ⟨rfl, rfl⟩
  · exact .inr ⟨rfl, by omega⟩
theorem far_over {t : ByteArray} {k : Nat} {v : Int} {f : Bool} (h : k < t.size) (H : Far t k v f) (h1 : 48 ≤ (t[k].toNat : Int)) (h2 : (t[k].toNat : Int) ≤ 57)
    (hv : 115292150460684697 < v) : Far t (k + 1) ((t[k].toNat : Int) - 48) true := by
  obtain ⟨hd, hf⟩ := H
  refine ⟨digs_yes_step h hd h1 h2, .inr ⟨rfl, ?_⟩⟩
  have e : FM.val (t.data.toList.take (k + 1)) = FM.val (t.data.toList.take k) * 10 + ((t[k].toNat : Int) - 48) := by
    rw [FM.take_snoc t k h, FM.val_snoc]
  rw [e]
  rcases hf with ⟨rfl, rfl⟩ | ⟨rfl, hf⟩ <;> omega
theorem far_not {t : ByteArray} {k : Nat} {v : Int} {f : Bool} (h : k < t.size) (_H : Far t k v f) (h1 : (t[k].toNat : Int) < 48 ∨ 57 < (t[k].toNat : Int)) : FM.okd t.data.toList = false := by
  unfold FM.okd; rw [digs_no_step h h1, Bool.and_false]
theorem far_end {t : ByteArray} {k : Nat} {v : Int} {f : Bool} (h : t.size ≤ k) (H : Far t k v f) (h1 : 1 ≤ t.size) (h2 : t.size ≤ 30) :
    FM.okd t.data.toList = true ∧ (f = false ∧ v = FM.val t.data.toList ∨ f = true ∧ 1152921504606846980 ≤ FM.val t.data.toList) := by
  obtain ⟨hd, hf⟩ := H
  rw [List.take_of_length_le (by rw [size_len]; exact h)] at hf
  refine ⟨?_, hf⟩
  unfold FM.okd; rw [digs_all h hd, size_len, decide_eq_true ⟨h1, h2⟩, Bool.true_and]

/-- the parser's answer behind the sign -/
def ends (ng : Bool) (t : ByteArray) : Int × Int := if FM.okd t.data.toList then FM.bd (if ng then -(FM.val t.data.toList) else FM.val t.data.toList) else (0, 6)
theorem ends_no {ng : Bool} {t : ByteArray} (h : FM.okd t.data.toList = false) : ends ng t = (0, 6) := by unfold ends; rw [h, if_neg (by simp)]
theorem ends_far {ng : Bool} {t : ByteArray} (h : FM.okd t.data.toList = true) (hv : 1152921504606846980 ≤ FM.val t.data.toList) : ends ng t = (0, 11) := by
  unfold ends; rw [h, if_pos rfl, FM.bd, FM.num_mk_no (by cases ng <;> simp <;> omega), if_neg (by simp)]
theorem ends_in {ng : Bool} {t : ByteArray} {v x : Int} (h : FM.okd t.data.toList = true) (hv : v = FM.val t.data.toList) (hx : (if ng then -v else v) = x) : ends ng t = FM.bd x := by
  unfold ends; rw [h, if_pos rfl, ← hv, hx]
theorem parse_ends (s : ByteArray) : FM.parse s.data.toList = ends (FM.neg s.data.toList) (bodyS s) := by
  unfold FM.parse ends FM.sv; rw [(body_data s).1]

set_option maxHeartbeats 1000000 in
theorem rparse_minus (s : ByteArray) (t : ByteArray) (hs : s.size ≤ 9223372036854775807) (h : 1 ≤ s.size) (b1 : ((s[0].toNat : Int) == 45) = true) (he : s.extract 1 s.size = t) (_hz : t.size ≤ s.size) (w : World) :
    Calls Tryd.prog 36 #[.string s] w fun e w' => e = .returned (two (ends true t)) ∧ w = w' := by
  by_cases hl : 1 ≤ t.size ∧ t.size ≤ 30
  · have hl1 := hl.1
    have hl2 := hl.2
    clear hl
    go_enter Tryd.func36, Tryd.ntmps36
    go_wp2
    go_loop [5, 6, 7] (fun n far i => ∃ (k : Nat) (v : Int) (f : Bool), k ≤ t.size ∧ i = .int .i64 k ∧ n = .int .i64 v ∧ far = .bool f ∧ 0 ≤ v ∧ v ≤ 1152921504606846979 ∧ Far t k v f) (fun _ _ i => t.size - (intOf i).toNat)
    case atStart => exact ⟨0, 0, false, Nat.zero_le _, rfl, rfl, rfl, by omega, by omega, far_start t⟩
    case round =>
      obtain ⟨k, v, f, hk, rfl, rfl, rfl, v0, v1, H⟩ := hrel
      by_cases hlt : k < t.size
      · by_cases h1 : 48 ≤ (t[k].toNat : Int)
        · by_cases h3 : (t[k].toNat : Int) ≤ 57
          · by_cases hv : v ≤ 115292150460684697
            · have hn := far_step hlt H h1 h3 hv
              go_wp2
              go_round
              case rel => exact ⟨k + 1, _, f, by omega, by go_num, rfl, rfl, by omega, by omega, hn⟩
              case measure => simp [intOf]; omega
            · have hn := far_over hlt H h1 h3 (by omega)
              go_wp2
              go_round
              case rel => exact ⟨k + 1, _, true, by omega, by go_num, by go_num, rfl, by omega, by omega, hn⟩
              case measure => simp [intOf]; omega
          · have hn := Lib.hid (far_not hlt H (by omega))
            go_wp2
            go_ret2
            refine ⟨?_, rfl⟩
            rw [ends_no hn.out]; rfl
        · have hn := Lib.hid (far_not hlt H (by omega))
          go_wp2
          go_ret2
          refine ⟨?_, rfl⟩
          rw [ends_no hn.out]; rfl
      · obtain ⟨ho, hf⟩ := far_end (by omega) H hl1 hl2
        have ho' := Lib.hid ho
        clear ho H
        rcases hf with ⟨rfl, hf⟩ | ⟨rfl, hf⟩
        · have hf' := Lib.hid hf
          clear hf
          cases hx : FM.num (-v)
          · have he := Lib.hid (show FM.bd (-v) = (0, 11) by rw [FM.bd, hx, if_neg (by simp)])
            go_wp2_with (go_at_call 18; refine (rnum_any _ _).mono ?_; rintro e w' ⟨rfl, rfl⟩)
            go_ret2
            refine ⟨?_, rfl⟩
            rw [ends_in (ng := true) ho'.out hf'.out rfl]
            simp only [if_true]
            rw [he.out]; rfl
          · have he := Lib.hid (show FM.bd (-v) = (-v, 0) by rw [FM.bd, hx, if_pos rfl])
            go_wp2_with (go_at_call 18; refine (rnum_any _ _).mono ?_; rintro e w' ⟨rfl, rfl⟩)
            go_ret2
            refine ⟨?_, rfl⟩
            rw [ends_in (ng := true) ho'.out hf'.out rfl]
            simp only [if_true]
            rw [he.out]; rfl
        · go_wp2
          go_ret2
          refine ⟨?_, rfl⟩
          rw [ends_far ho'.out hf]; rfl
  · have hn := Lib.hid (show FM.okd t.data.toList = false by unfold FM.okd; rw [size_len, decide_eq_false hl, Bool.false_and])
    have hl' : t.size < 1 ∨ 30 < t.size := by omega
    clear hl
    rcases hl' with hl | hl
    all_goals
      go_enter Tryd.func36, Tryd.ntmps36
      go_wp2
      go_ret2
      refine ⟨?_, rfl⟩
      rw [ends_no hn.out]; rfl

set_option maxHeartbeats 1000000 in
theorem rparse_plus (s : ByteArray) (t : ByteArray) (hs : s.size ≤ 9223372036854775807) (h : 1 ≤ s.size) (b1 : ((s[0].toNat : Int) == 45) = false) (b2 : ((s[0].toNat : Int) == 43) = true) (he : s.extract 1 s.size = t) (_hz : t.size ≤ s.size) (w : World) :
    Calls Tryd.prog 36 #[.string s] w fun e w' => e = .returned (two (ends false t)) ∧ w = w' := by
  by_cases hl : 1 ≤ t.size ∧ t.size ≤ 30
  · have hl1 := hl.1
    have hl2 := hl.2
    clear hl
    go_enter Tryd.func36, Tryd.ntmps36
    go_wp2
    go_loop [5, 6, 7] (fun n far i => ∃ (k : Nat) (v : Int) (f : Bool), k ≤ t.size ∧ i = .int .i64 k ∧ n = .int .i64 v ∧ far = .bool f ∧ 0 ≤ v ∧ v ≤ 1152921504606846979 ∧ Far t k v f) (fun _ _ i => t.size - (intOf i).toNat)
    case atStart => exact ⟨0, 0, false, Nat.zero_le _, rfl, rfl, rfl, by omega, by omega, far_start t⟩
    case round =>
      obtain ⟨k, v, f, hk, rfl, rfl, rfl, v0, v1, H⟩ := hrel
      by_cases hlt : k < t.size
      · by_cases h1 : 48 ≤ (t[k].toNat : Int)
        · by_cases h3 : (t[k].toNat : Int) ≤ 57
          · by_cases hv : v ≤ 115292150460684697
            · have hn := far_step hlt H h1 h3 hv
              go_wp2
              go_round
              case rel => exact ⟨k + 1, _, f, by omega, by go_num, rfl, rfl, by omega, by omega, hn⟩
              case measure => simp [intOf]; omega
            · have hn := far_over hlt H h1 h3 (by omega)
              go_wp2
              go_round
              case rel => exact ⟨k + 1, _, true, by omega, by go_num, by go_num, rfl, by omega, by omega, hn⟩
              case measure => simp [intOf]; omega
          · have hn := Lib.hid (far_not hlt H (by omega))
            go_wp2
            go_ret2
            refine ⟨?_, rfl⟩
            rw [ends_no hn.out]; rfl
        · have hn := Lib.hid (far_not hlt H (by omega))
          go_wp2
          go_ret2
          refine ⟨?_, rfl⟩
          rw [ends_no hn.out]; rfl
      · obtain ⟨ho, hf⟩ := far_end (by omega) H hl1 hl2
        have ho' := Lib.hid ho
        clear ho H
        rcases hf with ⟨rfl, hf⟩ | ⟨rfl, hf⟩
        · have hf' := Lib.hid hf
          clear hf
          cases hx : FM.num (v)
          · have he := Lib.hid (show FM.bd (v) = (0, 11) by rw [FM.bd, hx, if_neg (by simp)])
            go_wp2_with (go_at_call 18; refine (rnum_any _ _).mono ?_; rintro e w' ⟨rfl, rfl⟩)
            go_ret2
            refine ⟨?_, rfl⟩
            rw [ends_in (ng := false) ho'.out hf'.out rfl]
            simp only [Bool.false_eq_true, if_false]
            rw [he.out]; rfl
          · have he := Lib.hid (show FM.bd (v) = (v, 0) by rw [FM.bd, hx, if_pos rfl])
            go_wp2_with (go_at_call 18; refine (rnum_any _ _).mono ?_; rintro e w' ⟨rfl, rfl⟩)
            go_ret2
            refine ⟨?_, rfl⟩
            rw [ends_in (ng := false) ho'.out hf'.out rfl]
            simp only [Bool.false_eq_true, if_false]
            rw [he.out]; rfl
        · go_wp2
          go_ret2
          refine ⟨?_, rfl⟩
          rw [ends_far ho'.out hf]; rfl
  · have hn := Lib.hid (show FM.okd t.data.toList = false by unfold FM.okd; rw [size_len, decide_eq_false hl, Bool.false_and])
    have hl' : t.size < 1 ∨ 30 < t.size := by omega
    clear hl
    rcases hl' with hl | hl
    all_goals
      go_enter Tryd.func36, Tryd.ntmps36
      go_wp2
      go_ret2
      refine ⟨?_, rfl⟩
      rw [ends_no hn.out]; rfl

set_option maxHeartbeats 1000000 in
theorem rparse_none (s : ByteArray) (hs : s.size ≤ 9223372036854775807) (h : 1 ≤ s.size) (b1 : ((s[0].toNat : Int) == 45) = false) (b2 : ((s[0].toNat : Int) == 43) = false) (w : World) :
    Calls Tryd.prog 36 #[.string s] w fun e w' => e = .returned (two (ends false s)) ∧ w = w' := by
  by_cases hl : 1 ≤ s.size ∧ s.size ≤ 30
  · have hl1 := hl.1
    have hl2 := hl.2
    clear hl
    go_enter Tryd.func36, Tryd.ntmps36
    go_wp2
    go_loop [5, 6, 7] (fun n far i => ∃ (k : Nat) (v : Int) (f : Bool), k ≤ s.size ∧ i = .int .i64 k ∧ n = .int .i64 v ∧ far = .bool f ∧ 0 ≤ v ∧ v ≤ 1152921504606846979 ∧ Far s k v f) (fun _ _ i => s.size - (intOf i).toNat)
    case atStart => exact ⟨0, 0, false, Nat.zero_le _, rfl, rfl, rfl, by omega, by omega, far_start s⟩
    case round =>
      obtain ⟨k, v, f, hk, rfl, rfl, rfl, v0, v1, H⟩ := hrel
      by_cases hlt : k < s.size
      · by_cases h1 : 48 ≤ (s[k].toNat : Int)
        · by_cases h3 : (s[k].toNat : Int) ≤ 57
          · by_cases hv : v ≤ 115292150460684697
            · have hn := far_step hlt H h1 h3 hv
              go_wp2
              go_round
              case rel => exact ⟨k + 1, _, f, by omega, by go_num, rfl, rfl, by omega, by omega, hn⟩
              case measure => simp [intOf]; omega
            · have hn := far_over hlt H h1 h3 (by omega)
              go_wp2
              go_round
              case rel => exact ⟨k + 1, _, true, by omega, by go_num, by go_num, rfl, by omega, by omega, hn⟩
              case measure => simp [intOf]; omega
          · have hn := Lib.hid (far_not hlt H (by omega))
            go_wp2
            go_ret2
            refine ⟨?_, rfl⟩
            rw [ends_no hn.out]; rfl
        · have hn := Lib.hid (far_not hlt H (by omega))
          go_wp2
          go_ret2
          refine ⟨?_, rfl⟩
          rw [ends_no hn.out]; rfl
      · obtain ⟨ho, hf⟩ := far_end (by omega) H hl1 hl2
        have ho' := Lib.hid ho
        clear ho H
        rcases hf with ⟨rfl, hf⟩ | ⟨rfl, hf⟩
        · have hf' := Lib.hid hf
          clear hf
          cases hx : FM.num (v)
          · have he := Lib.hid (show FM.bd (v) = (0, 11) by rw [FM.bd, hx, if_neg (by simp)])
            go_wp2_with (go_at_call 18; refine (rnum_any _ _).mono ?_; rintro e w' ⟨rfl, rfl⟩)
            go_ret2
            refine ⟨?_, rfl⟩
            rw [ends_in (ng := false) ho'.out hf'.out rfl]
            simp only [Bool.false_eq_true, if_false]
            rw [he.out]; rfl
          · have he := Lib.hid (show FM.bd (v) = (v, 0) by rw [FM.bd, hx, if_pos rfl])
            go_wp2_with (go_at_call 18; refine (rnum_any _ _).mono ?_; rintro e w' ⟨rfl, rfl⟩)
            go_ret2
            refine ⟨?_, rfl⟩
            rw [ends_in (ng := false) ho'.out hf'.out rfl]
            simp only [Bool.false_eq_true, if_false]
            rw [he.out]; rfl
        · go_wp2
          go_ret2
          refine ⟨?_, rfl⟩
          rw [ends_far ho'.out hf]; rfl
  · have hn := Lib.hid (show FM.okd s.data.toList = false by unfold FM.okd; rw [size_len, decide_eq_false hl, Bool.false_and])
    have hl' : 30 < s.size := by omega
    clear hl
    go_enter Tryd.func36, Tryd.ntmps36
    go_wp2
    go_ret2
    refine ⟨?_, rfl⟩
    rw [ends_no hn.out]; rfl

theorem rparse_empty (s : ByteArray) (h : s.size = 0) (w : World) :
    Calls Tryd.prog 36 #[.string s] w fun e w' => e = .returned (two (0, 6)) ∧ w = w' := by
  have h' : ¬ 0 < s.size := by omega
  go_enter Tryd.func36, Tryd.ntmps36
  go_wp2
  go_ret2
  exact ⟨rfl, rfl⟩

theorem rparse_any (s : ByteArray) (hs : s.size ≤ 9223372036854775807) (w : World) :
    Calls Tryd.prog 36 #[.string s] w fun e w' => e = .returned (two (FM.parse s.data.toList)) ∧ w = w' := by
  rw [parse_ends s]
  by_cases h : 1 ≤ s.size
  · have hc := cons_of (s := s) (by omega)
    have hz := (body_data s).2
    by_cases h5 : s[0] = 45
    · have eb : bodyS s = s.extract 1 s.size := by
        unfold bodyS; rw [if_neg]; rw [hc, h5]; simp only [FM.body, true_or, if_true]
        intro e; have := congrArg List.length e; simp at this
      have es : FM.neg s.data.toList = true := by rw [hc, h5]; rfl
      rw [es]
      exact rparse_minus s _ hs h (by rw [h5]; rfl) eb.symm hz w
    · have b1 : ((s[0].toNat : Int) == 45) = false := by
        simp only [beq_eq_false_iff_ne, ne_eq]; intro e; apply h5; apply UInt8.toNat_inj.1; show s[0].toNat = 45; omega
      have es : FM.neg s.data.toList = false := by rw [hc]; simp [FM.neg, h5]
      rw [es]
      by_cases h6 : s[0] = 43
      · have eb : bodyS s = s.extract 1 s.size := by
          unfold bodyS; rw [if_neg]; rw [hc, h6]; simp only [FM.body, or_true, if_true]
          intro e; have := congrArg List.length e; simp at this
        exact rparse_plus s _ hs h b1 (by rw [h6]; rfl) eb.symm hz w
      · have eb : bodyS s = s := by
          unfold bodyS; rw [if_pos]; rw [hc]; simp [FM.body, h5, h6]
        rw [eb]
        refine rparse_none s hs h b1 ?_ w
        simp only [beq_eq_false_iff_ne, ne_eq]; intro e; apply h6; apply UInt8.toNat_inj.1; show s[0].toNat = 43; omega
  · obtain ⟨_, _, e4⟩ := empty_yes (s := s) (by omega)
    have eb : bodyS s = s := by unfold bodyS; rw [e4]; rfl
    rw [eb, ends_no (by rw [e4]; rfl)]
    exact rparse_empty s (by omega) w
end Go.Proofs.YtmnadgkneaiccaaDoor
