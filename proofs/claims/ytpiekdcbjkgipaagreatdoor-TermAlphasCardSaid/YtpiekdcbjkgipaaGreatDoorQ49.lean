/- The reference of layer 10: a term's text. -/
import Derived.Test.YtpiekdcbjkgipaaGreatDoorQ48
import Derived.Test.YtpiekdcbjkgipaaGreatDoorQ44
import Derived.Deep.RegionHeld3
namespace Go.Proofs.YtpiekdcbjkgipaaGreatDoor
open Go.ChangeShapes Go.WideShapes Go.ChangeAt Go.RowKit Go.Deep
open TM (Tl Tm)

theorem TM.quo_ok {d : RM.Dm} (h : TM.quo d = true) (hk : d.k ≠ 0) : SM.kd d.k d.n d.s d.is = true ∧ SM.rgt d.is = true ∧ SM.sz d.is ≤ 5000 := by
  unfold TM.quo at h
  rw [if_neg hk] at h
  unfold SM.okd at h
  simp only [Bool.and_eq_true, decide_eq_true_eq] at h
  exact ⟨h.2.1, h.2.2, by omega⟩
theorem TM.quo_n {d : RM.Dm} (h : TM.quo d = true) (hk : d.k = 0) : d.n = 0 ∨ d.n = 1 := by
  unfold TM.quo at h
  rw [if_pos hk] at h
  simp only [Bool.and_eq_true, Bool.or_eq_true, decide_eq_true_eq] at h
  omega
theorem ext_drop (T : ByteArray) : (T.extract 1 T.size).data.toList = T.data.toList.drop 1 := by
  rw [ByteArray.data_extract, Array.toList_extract]
  show List.extract T.data.toList 1 T.data.size = _
  rw [List.extract_eq_take_drop, List.take_of_length_le (by simp)]
/-- the box, and what was there ahead of the call -/
def Bx (w : World) (cs : List Value) (w' : World) : Prop := Below w.heap.size w w' ∧ Lies w' w.heap.size 28 cs
theorem Bx.below {w w' w2 : World} {cs : List Value} (h : Bx w cs w') (k : Below w'.heap.size w' w2) : Bx w cs w2 := ⟨h.1.trans (Below.mono k h.1.size), h.2.below k h.2.lt⟩
theorem Bx.drew {w w' : World} {cs : List Value} (h : Bx w cs w') : Bx w cs w'.drew := h.below (below_of_drew (w := w') (w' := w'.drew) (Below.refl _ _))
theorem load_int (w : World) (ev : Operand → Value) (o : Oper) (x : Operand) (g k : Nat) (n : Int) (ho : o.op = .load 3 x) (hx : ev x = .pointer (some ⟨g, k, none⟩)) (h : w.cell? ⟨g, k, none⟩ = some (.int .i64 n)) :
    (execOp ev o).run Tryz.prog w = .ok (.value (.int .i64 n)) w := by
  obtain ⟨d, op, ty, ps, af, gd⟩ := o
  simp only at ho
  subst ho
  go_simp
theorem load_strx (w : World) (ev : Operand → Value) (o : Oper) (x : Operand) (g k : Nat) (S : ByteArray) (ho : o.op = .load 9 x) (hx : ev x = .pointer (some ⟨g, k, none⟩)) (h : w.cell? ⟨g, k, none⟩ = some (.string S)) :
    (execOp ev o).run Tryz.prog w = .ok (.value (.string S)) w := by
  obtain ⟨d, op, ty, ps, af, gd⟩ := o
  simp only at ho
  subst ho
  go_simp
theorem load_tms (w : World) (ev : Operand → Value) (o : Oper) (x : Operand) (g k : Nat) (A : Option Addr) (n c : Nat) (ho : o.op = .load 26 x) (hx : ev x = .pointer (some ⟨g, k, none⟩)) (h : w.cell? ⟨g, k, none⟩ = some (.slice A n c)) :
    (execOp ev o).run Tryz.prog w = .ok (.value (.slice A n c)) w := by
  obtain ⟨d, op, ty, ps, af, gd⟩ := o
  simp only at ho
  subst ho
  go_simp
theorem add_str (w : World) (ev : Operand → Value) (o : Oper) (x y : Operand) (a b : ByteArray) (ho : o.op = .binOp .add 9 x y 9) (hx : ev x = .string a) (hy : ev y = .string b) (h : ¬ 9223372036854775807 < a.size + b.size) :
    (execOp ev o).run Tryz.prog w = .ok (.value (.string (a ++ b))) w := by
  obtain ⟨d, op, ty, ps, af, gd⟩ := o
  simp only at ho
  subst ho
  go_simp
section
variable (n : Int) (s : List UInt8) (ps : List Int) (d : RM.Dm) (ks : Tl)
set_option maxRecDepth 100000 in
set_option maxHeartbeats 4000000 in
theorem rtx_k1 (hR : ∀ i x, ks.at_ i = some x → TxOk x) : TxOk ⟨1, n, s, ps, d, ks⟩ := by
  intro w vp vi vk h h1 hf hsz
  obtain ⟨P3, p3, rfl⟩ := h.p.read
  obtain ⟨I7, q7, rfl⟩ := h.d.read
  obtain ⟨A1, c1, rfl⟩ := h.k.read
  simp only at h h1 hf hsz ⊢
  have hPa := Lib.hid (fun (w' : World) (hb : Below w.heap.size w w') => rparams_any ⟨1, n, s, ps, d, ks⟩ w' _ _ _ (h.below hb) h1.w.q h1.w.p)
  have hKi := Lib.hid (fun (w' : World) (hb : Below w.heap.size w w') => rkids_any ks hR w' _ (h.k.below hb) hf hsz)
  have hLo := Lib.hid (fun (w' : World) => rlocal_any n h1.w.n w')
  have hin := Lib.hid h.d
  have hks := Lib.hid (h1.ks)
  have hd := Lib.hid (show (1 : Int) = 1 → TM.quo d = true from h1.w.d)
  have hsl := h1.w.s
  have htl := Lib.hid (txs_len true ks hf.tw)
  have hll := Lib.hid (show (TM.loc n).length ≤ 30 from TM.loc_len h1.w.n)
  have hpl := Lib.hid (TM.prt_len n ps h1.w.q)
  have hpl2 := Lib.hid h1.w.p
  simp only at hsl
  unfold tmv at *
  simp only at hPa hKi hks hin hpl2
  have hkt := Lib.hid (TM.txs_true ks)
  obtain ⟨TK, hTK⟩ : ∃ TK, TM.txs true ks = TK := ⟨_, rfl⟩
  obtain ⟨TF, hTF⟩ : ∃ TF, TM.txs false ks = TF := ⟨_, rfl⟩
  obtain ⟨LC, hLC⟩ : ∃ LC, TM.loc n = LC := ⟨_, rfl⟩
  obtain ⟨PT, hPT⟩ : ∃ PT, TM.prt n ps = PT := ⟨_, rfl⟩
  have hval : TM.ttx ⟨1, n, s, ps, d, ks⟩ = TM.qtx d := by
    subst hTK hLC hPT; rfl
  rw [hval]
  rw [hTK, hTF] at hkt
  rw [hTK] at htl
  rw [hTF] at hKi
  rw [hLC] at hLo hll
  rw [hPT] at hPa hpl
  obtain ⟨S, hS⟩ : ∃ S : ByteArray, (⟨s.toArray⟩ : ByteArray) = S := ⟨_, rfl⟩
  have hSs : Hid (S.data.toList = s) := Lib.hid (by rw [← hS])
  have hSz : S.size ≤ 60 := by rw [← size_len, hSs.out]; exact hsl
  rw [hS] at hPa ⊢
  obtain ⟨N, hN⟩ : ∃ N, ks.len = N := ⟨_, rfl⟩
  obtain ⟨L3, hL3⟩ : ∃ x, ps.length = x := ⟨_, rfl⟩
  rw [hN] at hPa hKi hks hkt ⊢
  rw [hL3] at hPa hpl hpl2 ⊢
  clear hval hTK hTF hLC hPT hS hN hL3 hsl h h1 hf hR
  obtain ⟨dk, hdk⟩ : ∃ x, d.k = x := ⟨_, rfl⟩
  obtain ⟨dn, hdn⟩ : ∃ x, d.n = x := ⟨_, rfl⟩
  obtain ⟨DS, hDS⟩ : ∃ x : ByteArray, (⟨d.s.toArray⟩ : ByteArray) = x := ⟨_, rfl⟩
  obtain ⟨L7, hL7⟩ : ∃ x, d.is.len = x := ⟨_, rfl⟩
  rw [hdk, hdn, hDS, hL7] at hPa ⊢
  have hL := Lies.made w 28 #[.int .i64 1, .int .i64 n, .string S, .slice P3 L3 p3, .int .i64 dk, .int .i64 dn, .string DS, .slice I7 L7 q7, .slice A1 N c1]
  have hba : Below w.heap.size w (w.alloc (.cells #[.int .i64 1, .int .i64 n, .string S, .slice P3 L3 p3, .int .i64 dk, .int .i64 dn, .string DS, .slice I7 L7 q7, .slice A1 N c1] 28)) := (Below.refl _ w).alloc (Nat.le_refl _) _
  clear hKi hPa hLo htl hll hpl hpl2 hkt
  by_cases h0 : dk = 0
  · have hq := TM.quo_n (hd.out rfl) (hdk.trans h0)
    rw [hdn] at hq
    rw [show TM.qtx d = if dn = 0 then [35, 118, 111, 105, 100] else [35, 117, 110, 100, 101, 102] by unfold TM.qtx; rw [hdk, hdn, if_neg (by simpa using h0)]]
    subst h0
    clear hdk hdn hd hin hks hDS hL7
    rcases hq with rfl | rfl
    all_goals
      go_enter Tryz.func44, Tryz.ntmps44
      go_wp2_with fail
      go_ret
      exact ⟨⟨_, rfl, rfl⟩, hba.trans ((Below.refl _ _).alloc (by simp) _)⟩
  · obtain ⟨q1, q2, q3⟩ := TM.quo_ok (hd.out rfl) (by rw [hdk]; exact h0)
    have hC := Lib.hid (fun (w' : World) (hb : Below w.heap.size w w') => rt_any d w' _ false (hin.out.below hb) q1 q2 q3)
    unfold dtv at hC
    rw [hdk, hdn, hDS, hL7] at hC
    have hlen := Lib.hid (TM.qtx_len (hd.out rfl))
    have hq : TM.qtx d = [40, 113, 117, 111, 116, 101, 32] ++ (SM.txt false d ++ [41]) := by unfold TM.qtx; rw [hdk, if_pos h0]
    rw [hq]
    rw [hq] at hlen
    obtain ⟨X, hX⟩ : ∃ X, SM.txt false d = X := ⟨_, rfl⟩
    rw [hX] at hC hlen ⊢
    have hXl : X.length ≤ 5000000 := by have := hlen.out; simp at this; omega
    clear hdk hdn hd hin hks hDS hL7 q1 q2 q3 hq hX
    go_enter Tryz.func44, Tryz.ntmps44
    go_wp2_with (
      go_at_call 66
      refine (hC.out _ hba).mono ?_
      rintro e w5 ⟨⟨T, rfl, hT⟩, hb5⟩
      have hT' := Lib.hid hT
      have hTs : T.size ≤ 5000000 := (by rw [← size_len, hT]; exact hXl)
      clear hT)
    go_ret
    exact ⟨⟨_, rfl, by simp [hT'.out]⟩, hba.trans (hb5.mono hba.size)⟩
set_option maxRecDepth 100000 in
set_option maxHeartbeats 4000000 in
theorem rtx_k2 (hR : ∀ i x, ks.at_ i = some x → TxOk x) : TxOk ⟨2, n, s, ps, d, ks⟩ := by
  intro w vp vi vk h h1 hf hsz
  obtain ⟨P3, p3, rfl⟩ := h.p.read
  obtain ⟨I7, q7, rfl⟩ := h.d.read
  obtain ⟨A1, c1, rfl⟩ := h.k.read
  simp only at h h1 hf hsz ⊢
  have hPa := Lib.hid (fun (w' : World) (hb : Below w.heap.size w w') => rparams_any ⟨2, n, s, ps, d, ks⟩ w' _ _ _ (h.below hb) h1.w.q h1.w.p)
  have hKi := Lib.hid (fun (w' : World) (hb : Below w.heap.size w w') => rkids_any ks hR w' _ (h.k.below hb) hf hsz)
  have hLo := Lib.hid (fun (w' : World) => rlocal_any n h1.w.n w')
  have hin := Lib.hid h.d
  have hks := Lib.hid (h1.ks)
  have hd := Lib.hid (show (2 : Int) = 1 → TM.quo d = true from h1.w.d)
  have hsl := h1.w.s
  have htl := Lib.hid (txs_len true ks hf.tw)
  have hll := Lib.hid (show (TM.loc n).length ≤ 30 from TM.loc_len h1.w.n)
  have hpl := Lib.hid (TM.prt_len n ps h1.w.q)
  have hpl2 := Lib.hid h1.w.p
  simp only at hsl
  unfold tmv at *
  simp only at hPa hKi hks hin hpl2
  have hkt := Lib.hid (TM.txs_true ks)
  obtain ⟨TK, hTK⟩ : ∃ TK, TM.txs true ks = TK := ⟨_, rfl⟩
  obtain ⟨TF, hTF⟩ : ∃ TF, TM.txs false ks = TF := ⟨_, rfl⟩
  obtain ⟨LC, hLC⟩ : ∃ LC, TM.loc n = LC := ⟨_, rfl⟩
  obtain ⟨PT, hPT⟩ : ∃ PT, TM.prt n ps = PT := ⟨_, rfl⟩
  have hval : TM.ttx ⟨2, n, s, ps, d, ks⟩ = LC := by
    subst hTK hLC hPT; rfl
  rw [hval]
  rw [hTK, hTF] at hkt
  rw [hTK] at htl
  rw [hTF] at hKi
  rw [hLC] at hLo hll
  rw [hPT] at hPa hpl
  obtain ⟨S, hS⟩ : ∃ S : ByteArray, (⟨s.toArray⟩ : ByteArray) = S := ⟨_, rfl⟩
  have hSs : Hid (S.data.toList = s) := Lib.hid (by rw [← hS])
  have hSz : S.size ≤ 60 := by rw [← size_len, hSs.out]; exact hsl
  rw [hS] at hPa ⊢
  obtain ⟨N, hN⟩ : ∃ N, ks.len = N := ⟨_, rfl⟩
  obtain ⟨L3, hL3⟩ : ∃ x, ps.length = x := ⟨_, rfl⟩
  rw [hN] at hPa hKi hks hkt ⊢
  rw [hL3] at hPa hpl hpl2 ⊢
  clear hval hTK hTF hLC hPT hS hN hL3 hsl h h1 hf hR
  obtain ⟨dk, hdk⟩ : ∃ x, d.k = x := ⟨_, rfl⟩
  obtain ⟨dn, hdn⟩ : ∃ x, d.n = x := ⟨_, rfl⟩
  obtain ⟨DS, hDS⟩ : ∃ x : ByteArray, (⟨d.s.toArray⟩ : ByteArray) = x := ⟨_, rfl⟩
  obtain ⟨L7, hL7⟩ : ∃ x, d.is.len = x := ⟨_, rfl⟩
  rw [hdk, hdn, hDS, hL7] at hPa ⊢
  have hL := Lies.made w 28 #[.int .i64 2, .int .i64 n, .string S, .slice P3 L3 p3, .int .i64 dk, .int .i64 dn, .string DS, .slice I7 L7 q7, .slice A1 N c1]
  have hba : Below w.heap.size w (w.alloc (.cells #[.int .i64 2, .int .i64 n, .string S, .slice P3 L3 p3, .int .i64 dk, .int .i64 dn, .string DS, .slice I7 L7 q7, .slice A1 N c1] 28)) := (Below.refl _ w).alloc (Nat.le_refl _) _
  clear hKi hPa htl hll hpl hpl2 hkt hdk hdn hDS hL7 hin hd hks
  go_enter Tryz.func44, Tryz.ntmps44
  go_wp2_with (
    go_at_call 67
    refine (hLo.out _).mono ?_
    rintro e w5 ⟨⟨T, rfl, hT⟩, hb5⟩)
  go_ret
  exact ⟨⟨_, rfl, hT⟩, hba.trans (hb5.mono hba.size)⟩
set_option maxRecDepth 100000 in
set_option maxHeartbeats 4000000 in
theorem rtx_k3 (hR : ∀ i x, ks.at_ i = some x → TxOk x) : TxOk ⟨3, n, s, ps, d, ks⟩ := by
  intro w vp vi vk h h1 hf hsz
  obtain ⟨P3, p3, rfl⟩ := h.p.read
  obtain ⟨I7, q7, rfl⟩ := h.d.read
  obtain ⟨A1, c1, rfl⟩ := h.k.read
  simp only at h h1 hf hsz ⊢
  have hPa := Lib.hid (fun (w' : World) (hb : Below w.heap.size w w') => rparams_any ⟨3, n, s, ps, d, ks⟩ w' _ _ _ (h.below hb) h1.w.q h1.w.p)
  have hKi := Lib.hid (fun (w' : World) (hb : Below w.heap.size w w') => rkids_any ks hR w' _ (h.k.below hb) hf hsz)
  have hLo := Lib.hid (fun (w' : World) => rlocal_any n h1.w.n w')
  have hin := Lib.hid h.d
  have hks := Lib.hid (h1.ks)
  have hd := Lib.hid (show (3 : Int) = 1 → TM.quo d = true from h1.w.d)
  have hsl := h1.w.s
  have htl := Lib.hid (txs_len true ks hf.tw)
  have hll := Lib.hid (show (TM.loc n).length ≤ 30 from TM.loc_len h1.w.n)
  have hpl := Lib.hid (TM.prt_len n ps h1.w.q)
  have hpl2 := Lib.hid h1.w.p
  simp only at hsl
  unfold tmv at *
  simp only at hPa hKi hks hin hpl2
  have hkt := Lib.hid (TM.txs_true ks)
  obtain ⟨TK, hTK⟩ : ∃ TK, TM.txs true ks = TK := ⟨_, rfl⟩
  obtain ⟨TF, hTF⟩ : ∃ TF, TM.txs false ks = TF := ⟨_, rfl⟩
  obtain ⟨LC, hLC⟩ : ∃ LC, TM.loc n = LC := ⟨_, rfl⟩
  obtain ⟨PT, hPT⟩ : ∃ PT, TM.prt n ps = PT := ⟨_, rfl⟩
  have hval : TM.ttx ⟨3, n, s, ps, d, ks⟩ = s := by
    subst hTK hLC hPT; rfl
  rw [hval]
  rw [hTK, hTF] at hkt
  rw [hTK] at htl
  rw [hTF] at hKi
  rw [hLC] at hLo hll
  rw [hPT] at hPa hpl
  obtain ⟨S, hS⟩ : ∃ S : ByteArray, (⟨s.toArray⟩ : ByteArray) = S := ⟨_, rfl⟩
  have hSs : Hid (S.data.toList = s) := Lib.hid (by rw [← hS])
  have hSz : S.size ≤ 60 := by rw [← size_len, hSs.out]; exact hsl
  rw [hS] at hPa ⊢
  obtain ⟨N, hN⟩ : ∃ N, ks.len = N := ⟨_, rfl⟩
  obtain ⟨L3, hL3⟩ : ∃ x, ps.length = x := ⟨_, rfl⟩
  rw [hN] at hPa hKi hks hkt ⊢
  rw [hL3] at hPa hpl hpl2 ⊢
  clear hval hTK hTF hLC hPT hS hN hL3 hsl h h1 hf hR
  obtain ⟨dk, hdk⟩ : ∃ x, d.k = x := ⟨_, rfl⟩
  obtain ⟨dn, hdn⟩ : ∃ x, d.n = x := ⟨_, rfl⟩
  obtain ⟨DS, hDS⟩ : ∃ x : ByteArray, (⟨d.s.toArray⟩ : ByteArray) = x := ⟨_, rfl⟩
  obtain ⟨L7, hL7⟩ : ∃ x, d.is.len = x := ⟨_, rfl⟩
  rw [hdk, hdn, hDS, hL7] at hPa ⊢
  have hL := Lies.made w 28 #[.int .i64 3, .int .i64 n, .string S, .slice P3 L3 p3, .int .i64 dk, .int .i64 dn, .string DS, .slice I7 L7 q7, .slice A1 N c1]
  have hba : Below w.heap.size w (w.alloc (.cells #[.int .i64 3, .int .i64 n, .string S, .slice P3 L3 p3, .int .i64 dk, .int .i64 dn, .string DS, .slice I7 L7 q7, .slice A1 N c1] 28)) := (Below.refl _ w).alloc (Nat.le_refl _) _
  clear hKi hPa hLo htl hll hpl hpl2 hkt hdk hdn hDS hL7 hin hd hks
  go_enter Tryz.func44, Tryz.ntmps44
  go_wp2_with fail
  go_ret
  exact ⟨⟨_, rfl, hSs.out⟩, hba⟩
set_option maxRecDepth 100000 in
set_option maxHeartbeats 4000000 in
theorem rtx_k4 (hR : ∀ i x, ks.at_ i = some x → TxOk x) : TxOk ⟨4, n, s, ps, d, ks⟩ := by
  intro w vp vi vk h h1 hf hsz
  obtain ⟨P3, p3, rfl⟩ := h.p.read
  obtain ⟨I7, q7, rfl⟩ := h.d.read
  obtain ⟨A1, c1, rfl⟩ := h.k.read
  simp only at h h1 hf hsz ⊢
  have hPa := Lib.hid (fun (w' : World) (hb : Below w.heap.size w w') => rparams_any ⟨4, n, s, ps, d, ks⟩ w' _ _ _ (h.below hb) h1.w.q h1.w.p)
  have hKi := Lib.hid (fun (w' : World) (hb : Below w.heap.size w w') => rkids_any ks hR w' _ (h.k.below hb) hf hsz)
  have hLo := Lib.hid (fun (w' : World) => rlocal_any n h1.w.n w')
  have hin := Lib.hid h.d
  have hks := Lib.hid (h1.ks)
  have hd := Lib.hid (show (4 : Int) = 1 → TM.quo d = true from h1.w.d)
  have hsl := h1.w.s
  have htl := Lib.hid (txs_len true ks hf.tw)
  have hll := Lib.hid (show (TM.loc n).length ≤ 30 from TM.loc_len h1.w.n)
  have hpl := Lib.hid (TM.prt_len n ps h1.w.q)
  have hpl2 := Lib.hid h1.w.p
  simp only at hsl
  unfold tmv at *
  simp only at hPa hKi hks hin hpl2
  have hkt := Lib.hid (TM.txs_true ks)
  obtain ⟨TK, hTK⟩ : ∃ TK, TM.txs true ks = TK := ⟨_, rfl⟩
  obtain ⟨TF, hTF⟩ : ∃ TF, TM.txs false ks = TF := ⟨_, rfl⟩
  obtain ⟨LC, hLC⟩ : ∃ LC, TM.loc n = LC := ⟨_, rfl⟩
  obtain ⟨PT, hPT⟩ : ∃ PT, TM.prt n ps = PT := ⟨_, rfl⟩
  have hval : TM.ttx ⟨4, n, s, ps, d, ks⟩ = 40 :: (([115, 101, 116, 33, 32] ++ (LC ++ [32])) ++ (TK ++ [41])) := by
    subst hTK hLC hPT; rfl
  rw [hval]
  rw [hTK, hTF] at hkt
  rw [hTK] at htl
  rw [hTF] at hKi
  rw [hLC] at hLo hll
  rw [hPT] at hPa hpl
  obtain ⟨S, hS⟩ : ∃ S : ByteArray, (⟨s.toArray⟩ : ByteArray) = S := ⟨_, rfl⟩
  have hSs : Hid (S.data.toList = s) := Lib.hid (by rw [← hS])
  have hSz : S.size ≤ 60 := by rw [← size_len, hSs.out]; exact hsl
  rw [hS] at hPa ⊢
  obtain ⟨N, hN⟩ : ∃ N, ks.len = N := ⟨_, rfl⟩
  obtain ⟨L3, hL3⟩ : ∃ x, ps.length = x := ⟨_, rfl⟩
  rw [hN] at hPa hKi hks hkt ⊢
  rw [hL3] at hPa hpl hpl2 ⊢
  clear hval hTK hTF hLC hPT hS hN hL3 hsl h h1 hf hR
  obtain ⟨dk, hdk⟩ : ∃ x, d.k = x := ⟨_, rfl⟩
  obtain ⟨dn, hdn⟩ : ∃ x, d.n = x := ⟨_, rfl⟩
  obtain ⟨DS, hDS⟩ : ∃ x : ByteArray, (⟨d.s.toArray⟩ : ByteArray) = x := ⟨_, rfl⟩
  obtain ⟨L7, hL7⟩ : ∃ x, d.is.len = x := ⟨_, rfl⟩
  rw [hdk, hdn, hDS, hL7] at hPa ⊢
  have hL := Lies.made w 28 #[.int .i64 4, .int .i64 n, .string S, .slice P3 L3 p3, .int .i64 dk, .int .i64 dn, .string DS, .slice I7 L7 q7, .slice A1 N c1]
  have hba : Below w.heap.size w (w.alloc (.cells #[.int .i64 4, .int .i64 n, .string S, .slice P3 L3 p3, .int .i64 dk, .int .i64 dn, .string DS, .slice I7 L7 q7, .slice A1 N c1] 28)) := (Below.refl _ w).alloc (Nat.le_refl _) _
  have hkt' : 0 < N → 32 :: TK = TF := hkt.out
  have hN0 : Hid (0 < N) := Lib.hid (hks.out (by omega))
  have hTFl : TF.length ≤ 6000000 * 5000 + 1 := by
    have h1 := hkt.out hN0.out
    have h2 := htl.out
    rw [← h1, List.length_cons]
    have : 6000000 * TM.sz ks ≤ 6000000 * 5000 := Nat.mul_le_mul_left _ hsz
    omega
  clear htl hpl hkt hdk hdn hDS hL7 hin hd hks
  have hF : Bx w [.int .i64 4, .int .i64 n, .string S, .slice P3 L3 p3, .int .i64 dk, .int .i64 dn, .string DS, .slice I7 L7 q7, .slice A1 N c1] _ := ⟨hba, hL⟩
  clear hba hL
  go_enter Tryz.func44, Tryz.ntmps44
  go_wp2_with fail
  refine wp_region_held_drew (S := fun w' => Bx w [.int .i64 4, .int .i64 n, .string S, .slice P3 L3 p3, .int .i64 dk, .int .i64 dn, .string DS, .slice I7 L7 q7, .slice A1 N c1] w') rfl hF.drew (fun hHeld => ?_)
  clear hF
  refine wpAnyH_take (i := 0) (oi := { dst := some 33, op := Go.Op.fieldAddr 28 (Go.Operand.tmp 1) 1, type := 0, pos := "ref.go:212", after := #[], guard := none }) (v := ?_) rfl (by kernel_rfl) (by kernel_rfl) (by kernel_rfl) (fun _ _ _ h => h) (Or.inl ⟨by rfl, ?_⟩) (by assumption) ?_
  rotate_left
  · intro w hSw; clear hSw; go_simp; try with_reducible rfl
  try simp only [Act.put, List.setIfInBounds_toArray, List.set_cons_zero, List.set_cons_succ]
  refine wpAnyH_take (i := 1) (oi := { dst := some 34, op := Go.Op.load 3 (Go.Operand.tmp 33), type := 3, pos := "ref.go:212", after := #[{ on := 0, ground := Go.Ground.data }], guard := none }) (v := _) rfl (by kernel_rfl) (by kernel_rfl) (by kernel_rfl) (fun _ _ _ h => h) (Or.inl ⟨by rfl, fun w' hS => load_int w' _ _ _ _ _ _ rfl rfl (show _ = some _ from hS.2.cell 1)⟩) (by assumption) ?_
  try simp only [Act.put, List.setIfInBounds_toArray, List.set_cons_zero, List.set_cons_succ]
  refine wpAnyH_take (i := 4) (oi := { dst := some 37, op := Go.Op.fieldAddr 28 (Go.Operand.tmp 1) 5, type := 0, pos := "ref.go:212", after := #[], guard := none }) (v := ?_) rfl (by kernel_rfl) (by kernel_rfl) (by kernel_rfl) (fun _ _ _ h => h) (Or.inl ⟨by rfl, ?_⟩) (by assumption) ?_
  rotate_left
  · intro w hSw; clear hSw; go_simp; try with_reducible rfl
  try simp only [Act.put, List.setIfInBounds_toArray, List.set_cons_zero, List.set_cons_succ]
  refine wpAnyH_take (i := 5) (oi := { dst := some 38, op := Go.Op.load 26 (Go.Operand.tmp 37), type := 26, pos := "ref.go:212", after := #[{ on := 4, ground := Go.Ground.data }], guard := none }) (v := _) rfl (by kernel_rfl) (by kernel_rfl) (by kernel_rfl) (fun _ _ _ h => h) (Or.inl ⟨by rfl, fun w' hS => load_tms w' _ _ _ _ _ _ _ _ rfl rfl (show _ = some _ from hS.2.cell 8)⟩) (by assumption) ?_
  try simp only [Act.put, List.setIfInBounds_toArray, List.set_cons_zero, List.set_cons_succ]
  refine wpAnyH_ready (rs := [2]) (by kernel_rfl) (by simp) ?_
  refine AllReadyH.cons (o := { dst := some 35, op := Go.Op.call { callee := Go.Callee.value (Go.Operand.func 67), args := #[Go.Operand.tmp 34], argTypes := #[3] }, type := 9, pos := "ref.go:212", after := #[{ on := 1, ground := Go.Ground.data }], guard := none }) rfl (fun K hK => ?_) AllReadyH.nil
  rw [if_pos (by rfl)]
  go_simp
  refine (hLo.out _).mono ?_
  rintro e w9 ⟨⟨T5, rfl, hT9⟩, hb9⟩
  have hE_T5 := Lib.hid hT9
  have hZ_T5 : T5.size ≤ 30 := (by rw [← size_len, hT9]; exact hll.out)
  have q1 : ¬ 9223372036854775807 < (⟨#[40, 115, 101, 116, 33, 32]⟩ : ByteArray).size + T5.size := (by show ¬ _ < 6 + T5.size; omega)
  have hMM := hHeld.below hb9
  clear hb9 hT9 hHeld
  refine hK.out _ _ hMM (fun hHeld => ?_)
  clear hK K
  try simp only [Act.put, List.setIfInBounds_toArray, List.set_cons_zero, List.set_cons_succ]
  refine wpAnyH_take (i := 3) (oi := { dst := some 36, op := Go.Op.binOp Go.BinOp.add 9 (Go.Operand.const (Go.Value.string { data := #[40, 115, 101, 116, 33, 32] })) (Go.Operand.tmp 35) 9, type := 9, pos := "ref.go:212", after := #[{ on := 2, ground := Go.Ground.data }], guard := none }) (v := _) rfl (by kernel_rfl) (by kernel_rfl) (by kernel_rfl) (fun _ _ _ h => h) (Or.inl ⟨by rfl, fun w' _ => add_str w' _ _ _ _ _ _ rfl rfl rfl q1⟩) (by assumption) ?_
  try simp only [Act.put, List.setIfInBounds_toArray, List.set_cons_zero, List.set_cons_succ]
  refine wpAnyH_ready (rs := [6]) (by kernel_rfl) (by simp) ?_
  refine AllReadyH.cons (o := { dst := some 39, op := Go.Op.call { callee := Go.Callee.value (Go.Operand.func 68), args := #[Go.Operand.tmp 38], argTypes := #[26] }, type := 9, pos := "ref.go:212", after := #[{ on := 5, ground := Go.Ground.data }, { on := 2, ground := Go.Ground.chain }], guard := none }) rfl (fun K hK => ?_) AllReadyH.nil
  rw [if_pos (by rfl)]
  go_simp
  refine (hKi.out _ hHeld.1).mono ?_
  rintro e w9 ⟨⟨T7, rfl, hT9⟩, hb9⟩
  have hE_T7 := Lib.hid hT9
  have hZ_T7 : T7.size ≤ 6000000 * 5000 + 1 := (by rw [← size_len, hT9]; exact hTFl)
  have q2 : ¬ 9223372036854775807 < ((⟨#[40, 115, 101, 116, 33, 32]⟩ : ByteArray) ++ T5).size + T7.size := (by rw [ByteArray.size_append]; show ¬ _ < 6 + T5.size + T7.size; omega)
  have q3 : ¬ 9223372036854775807 < ((⟨#[40, 115, 101, 116, 33, 32]⟩ : ByteArray) ++ T5 ++ T7).size + (⟨#[41]⟩ : ByteArray).size := (by rw [ByteArray.size_append, ByteArray.size_append]; show ¬ _ < 6 + T5.size + T7.size + 1; omega)
  have hMM := hHeld.below hb9
  clear hb9 hT9 hHeld
  refine hK.out _ _ hMM (fun hHeld => ?_)
  clear hK K
  try simp only [Act.put, List.setIfInBounds_toArray, List.set_cons_zero, List.set_cons_succ]
  refine wpAnyH_take (i := 7) (oi := { dst := some 40, op := Go.Op.binOp Go.BinOp.add 9 (Go.Operand.tmp 36) (Go.Operand.tmp 39) 9, type := 9, pos := "ref.go:212", after := #[{ on := 3, ground := Go.Ground.data }, { on := 6, ground := Go.Ground.data }], guard := none }) (v := _) rfl (by kernel_rfl) (by kernel_rfl) (by kernel_rfl) (fun _ _ _ h => h) (Or.inl ⟨by rfl, fun w' _ => add_str w' _ _ _ _ _ _ rfl rfl rfl q2⟩) (by assumption) ?_
  try simp only [Act.put, List.setIfInBounds_toArray, List.set_cons_zero, List.set_cons_succ]
  refine wpAnyH_take (i := 8) (oi := { dst := some 41, op := Go.Op.binOp Go.BinOp.add 9 (Go.Operand.tmp 40) (Go.Operand.const (Go.Value.string { data := #[41] })) 9, type := 9, pos := "ref.go:212", after := #[{ on := 7, ground := Go.Ground.data }], guard := none }) (v := _) rfl (by kernel_rfl) (by kernel_rfl) (by kernel_rfl) (fun _ _ _ h => h) (Or.inl ⟨by rfl, fun w' _ => add_str w' _ _ _ _ _ _ rfl rfl rfl q3⟩) (by assumption) ?_
  try simp only [Act.put, List.setIfInBounds_toArray, List.set_cons_zero, List.set_cons_succ]
  refine wpAnyH_take (i := 9) (oi := { dst := some 2, op := Go.Op.assign (Go.Operand.tmp 41), type := 9, pos := "ref.go:212", after := #[{ on := 8, ground := Go.Ground.data }, { on := 6, ground := Go.Ground.chain }, { on := 0, ground := Go.Ground.phase }, { on := 1, ground := Go.Ground.phase }, { on := 2, ground := Go.Ground.phase }, { on := 3, ground := Go.Ground.phase }, { on := 4, ground := Go.Ground.phase }, { on := 5, ground := Go.Ground.phase }, { on := 6, ground := Go.Ground.phase }, { on := 7, ground := Go.Ground.phase }, { on := 8, ground := Go.Ground.phase }], guard := none }) (v := ?_) rfl (by kernel_rfl) (by kernel_rfl) (by kernel_rfl) (fun _ _ _ h => h) (Or.inl ⟨by rfl, ?_⟩) (by assumption) ?_
  rotate_left
  · intro w hSw; clear hSw; go_simp; try with_reducible rfl
  try simp only [Act.put, List.setIfInBounds_toArray, List.set_cons_zero, List.set_cons_succ]
  refine wpAnyH_done (by kernel_rfl) ?_ _
  have hF := hHeld
  clear hHeld
  go_wp2_with fail
  go_ret
  exact ⟨⟨_, rfl, by simp [hE_T5.out, hE_T7.out, ← hkt' hN0.out]⟩, hF.1⟩
set_option maxRecDepth 100000 in
set_option maxHeartbeats 4000000 in
theorem rtx_k5 (hR : ∀ i x, ks.at_ i = some x → TxOk x) : TxOk ⟨5, n, s, ps, d, ks⟩ := by
  intro w vp vi vk h h1 hf hsz
  obtain ⟨P3, p3, rfl⟩ := h.p.read
  obtain ⟨I7, q7, rfl⟩ := h.d.read
  obtain ⟨A1, c1, rfl⟩ := h.k.read
  simp only at h h1 hf hsz ⊢
  have hPa := Lib.hid (fun (w' : World) (hb : Below w.heap.size w w') => rparams_any ⟨5, n, s, ps, d, ks⟩ w' _ _ _ (h.below hb) h1.w.q h1.w.p)
  have hKi := Lib.hid (fun (w' : World) (hb : Below w.heap.size w w') => rkids_any ks hR w' _ (h.k.below hb) hf hsz)
  have hLo := Lib.hid (fun (w' : World) => rlocal_any n h1.w.n w')
  have hin := Lib.hid h.d
  have hks := Lib.hid (h1.ks)
  have hd := Lib.hid (show (5 : Int) = 1 → TM.quo d = true from h1.w.d)
  have hsl := h1.w.s
  have htl := Lib.hid (txs_len true ks hf.tw)
  have hll := Lib.hid (show (TM.loc n).length ≤ 30 from TM.loc_len h1.w.n)
  have hpl := Lib.hid (TM.prt_len n ps h1.w.q)
  have hpl2 := Lib.hid h1.w.p
  simp only at hsl
  unfold tmv at *
  simp only at hPa hKi hks hin hpl2
  have hkt := Lib.hid (TM.txs_true ks)
  obtain ⟨TK, hTK⟩ : ∃ TK, TM.txs true ks = TK := ⟨_, rfl⟩
  obtain ⟨TF, hTF⟩ : ∃ TF, TM.txs false ks = TF := ⟨_, rfl⟩
  obtain ⟨LC, hLC⟩ : ∃ LC, TM.loc n = LC := ⟨_, rfl⟩
  obtain ⟨PT, hPT⟩ : ∃ PT, TM.prt n ps = PT := ⟨_, rfl⟩
  have hval : TM.ttx ⟨5, n, s, ps, d, ks⟩ = 40 :: (([115, 101, 116, 33, 32] ++ (s ++ [32])) ++ (TK ++ [41])) := by
    subst hTK hLC hPT; rfl
  rw [hval]
  rw [hTK, hTF] at hkt
  rw [hTK] at htl
  rw [hTF] at hKi
  rw [hLC] at hLo hll
  rw [hPT] at hPa hpl
  obtain ⟨S, hS⟩ : ∃ S : ByteArray, (⟨s.toArray⟩ : ByteArray) = S := ⟨_, rfl⟩
  have hSs : Hid (S.data.toList = s) := Lib.hid (by rw [← hS])
  have hSz : S.size ≤ 60 := by rw [← size_len, hSs.out]; exact hsl
  rw [hS] at hPa ⊢
  obtain ⟨N, hN⟩ : ∃ N, ks.len = N := ⟨_, rfl⟩
  obtain ⟨L3, hL3⟩ : ∃ x, ps.length = x := ⟨_, rfl⟩
  rw [hN] at hPa hKi hks hkt ⊢
  rw [hL3] at hPa hpl hpl2 ⊢
  clear hval hTK hTF hLC hPT hS hN hL3 hsl h h1 hf hR
  obtain ⟨dk, hdk⟩ : ∃ x, d.k = x := ⟨_, rfl⟩
  obtain ⟨dn, hdn⟩ : ∃ x, d.n = x := ⟨_, rfl⟩
  obtain ⟨DS, hDS⟩ : ∃ x : ByteArray, (⟨d.s.toArray⟩ : ByteArray) = x := ⟨_, rfl⟩
  obtain ⟨L7, hL7⟩ : ∃ x, d.is.len = x := ⟨_, rfl⟩
  rw [hdk, hdn, hDS, hL7] at hPa ⊢
  have hL := Lies.made w 28 #[.int .i64 5, .int .i64 n, .string S, .slice P3 L3 p3, .int .i64 dk, .int .i64 dn, .string DS, .slice I7 L7 q7, .slice A1 N c1]
  have hba : Below w.heap.size w (w.alloc (.cells #[.int .i64 5, .int .i64 n, .string S, .slice P3 L3 p3, .int .i64 dk, .int .i64 dn, .string DS, .slice I7 L7 q7, .slice A1 N c1] 28)) := (Below.refl _ w).alloc (Nat.le_refl _) _
  have hkt' : 0 < N → 32 :: TK = TF := hkt.out
  have hN0 : Hid (0 < N) := Lib.hid (hks.out (by omega))
  have hTFl : TF.length ≤ 6000000 * 5000 + 1 := by
    have h1 := hkt.out hN0.out
    have h2 := htl.out
    rw [← h1, List.length_cons]
    have : 6000000 * TM.sz ks ≤ 6000000 * 5000 := Nat.mul_le_mul_left _ hsz
    omega
  clear htl hll hkt hdk hdn hDS hL7 hin hd hks
  have hF : Bx w [.int .i64 5, .int .i64 n, .string S, .slice P3 L3 p3, .int .i64 dk, .int .i64 dn, .string DS, .slice I7 L7 q7, .slice A1 N c1] _ := ⟨hba, hL⟩
  clear hba hL
  have q1 : ¬ 9223372036854775807 < (⟨#[40, 115, 101, 116, 33, 32]⟩ : ByteArray).size + S.size := (by show ¬ _ < 6 + S.size; omega)
  go_enter Tryz.func44, Tryz.ntmps44
  go_wp2_with fail
  refine wp_region_held_drew (S := fun w' => Bx w [.int .i64 5, .int .i64 n, .string S, .slice P3 L3 p3, .int .i64 dk, .int .i64 dn, .string DS, .slice I7 L7 q7, .slice A1 N c1] w') rfl hF.drew (fun hHeld => ?_)
  clear hF
  refine wpAnyH_take (i := 0) (oi := { dst := some 44, op := Go.Op.fieldAddr 28 (Go.Operand.tmp 1) 2, type := 0, pos := "ref.go:214", after := #[], guard := none }) (v := ?_) rfl (by kernel_rfl) (by kernel_rfl) (by kernel_rfl) (fun _ _ _ h => h) (Or.inl ⟨by rfl, ?_⟩) (by assumption) ?_
  rotate_left
  · intro w hSw; clear hSw; go_simp; try with_reducible rfl
  try simp only [Act.put, List.setIfInBounds_toArray, List.set_cons_zero, List.set_cons_succ]
  refine wpAnyH_take (i := 1) (oi := { dst := some 45, op := Go.Op.load 9 (Go.Operand.tmp 44), type := 9, pos := "ref.go:214", after := #[{ on := 0, ground := Go.Ground.data }], guard := none }) (v := _) rfl (by kernel_rfl) (by kernel_rfl) (by kernel_rfl) (fun _ _ _ h => h) (Or.inl ⟨by rfl, fun w' hS => load_strx w' _ _ _ _ _ _ rfl rfl (show _ = some _ from hS.2.cell 2)⟩) (by assumption) ?_
  try simp only [Act.put, List.setIfInBounds_toArray, List.set_cons_zero, List.set_cons_succ]
  refine wpAnyH_take (i := 2) (oi := { dst := some 46, op := Go.Op.binOp Go.BinOp.add 9 (Go.Operand.const (Go.Value.string { data := #[40, 115, 101, 116, 33, 32] })) (Go.Operand.tmp 45) 9, type := 9, pos := "ref.go:214", after := #[{ on := 1, ground := Go.Ground.data }], guard := none }) (v := _) rfl (by kernel_rfl) (by kernel_rfl) (by kernel_rfl) (fun _ _ _ h => h) (Or.inl ⟨by rfl, fun w' _ => add_str w' _ _ _ _ _ _ rfl rfl rfl q1⟩) (by assumption) ?_
  try simp only [Act.put, List.setIfInBounds_toArray, List.set_cons_zero, List.set_cons_succ]
  refine wpAnyH_take (i := 3) (oi := { dst := some 47, op := Go.Op.fieldAddr 28 (Go.Operand.tmp 1) 5, type := 0, pos := "ref.go:214", after := #[], guard := none }) (v := ?_) rfl (by kernel_rfl) (by kernel_rfl) (by kernel_rfl) (fun _ _ _ h => h) (Or.inl ⟨by rfl, ?_⟩) (by assumption) ?_
  rotate_left
  · intro w hSw; clear hSw; go_simp; try with_reducible rfl
  try simp only [Act.put, List.setIfInBounds_toArray, List.set_cons_zero, List.set_cons_succ]
  refine wpAnyH_take (i := 4) (oi := { dst := some 48, op := Go.Op.load 26 (Go.Operand.tmp 47), type := 26, pos := "ref.go:214", after := #[{ on := 3, ground := Go.Ground.data }], guard := none }) (v := _) rfl (by kernel_rfl) (by kernel_rfl) (by kernel_rfl) (fun _ _ _ h => h) (Or.inl ⟨by rfl, fun w' hS => load_tms w' _ _ _ _ _ _ _ _ rfl rfl (show _ = some _ from hS.2.cell 8)⟩) (by assumption) ?_
  try simp only [Act.put, List.setIfInBounds_toArray, List.set_cons_zero, List.set_cons_succ]
  refine wpAnyH_ready (rs := [5]) (by kernel_rfl) (by simp) ?_
  refine AllReadyH.cons (o := { dst := some 49, op := Go.Op.call { callee := Go.Callee.value (Go.Operand.func 68), args := #[Go.Operand.tmp 48], argTypes := #[26] }, type := 9, pos := "ref.go:214", after := #[{ on := 4, ground := Go.Ground.data }], guard := none }) rfl (fun K hK => ?_) AllReadyH.nil
  rw [if_pos (by rfl)]
  go_simp
  refine (hKi.out _ hHeld.1).mono ?_
  rintro e w9 ⟨⟨T7, rfl, hT9⟩, hb9⟩
  have hE_T7 := Lib.hid hT9
  have hZ_T7 : T7.size ≤ 6000000 * 5000 + 1 := (by rw [← size_len, hT9]; exact hTFl)
  have q2 : ¬ 9223372036854775807 < ((⟨#[40, 115, 101, 116, 33, 32]⟩ : ByteArray) ++ S).size + T7.size := (by rw [ByteArray.size_append]; show ¬ _ < 6 + S.size + T7.size; omega)
  have q3 : ¬ 9223372036854775807 < ((⟨#[40, 115, 101, 116, 33, 32]⟩ : ByteArray) ++ S ++ T7).size + (⟨#[41]⟩ : ByteArray).size := (by rw [ByteArray.size_append, ByteArray.size_append]; show ¬ _ < 6 + S.size + T7.size + 1; omega)
  have hMM := hHeld.below hb9
  clear hb9 hT9 hHeld
  refine hK.out _ _ hMM (fun hHeld => ?_)
  clear hK K
  try simp only [Act.put, List.setIfInBounds_toArray, List.set_cons_zero, List.set_cons_succ]
  refine wpAnyH_take (i := 6) (oi := { dst := some 50, op := Go.Op.binOp Go.BinOp.add 9 (Go.Operand.tmp 46) (Go.Operand.tmp 49) 9, type := 9, pos := "ref.go:214", after := #[{ on := 2, ground := Go.Ground.data }, { on := 5, ground := Go.Ground.data }], guard := none }) (v := _) rfl (by kernel_rfl) (by kernel_rfl) (by kernel_rfl) (fun _ _ _ h => h) (Or.inl ⟨by rfl, fun w' _ => add_str w' _ _ _ _ _ _ rfl rfl rfl q2⟩) (by assumption) ?_
  try simp only [Act.put, List.setIfInBounds_toArray, List.set_cons_zero, List.set_cons_succ]
  refine wpAnyH_take (i := 7) (oi := { dst := some 51, op := Go.Op.binOp Go.BinOp.add 9 (Go.Operand.tmp 50) (Go.Operand.const (Go.Value.string { data := #[41] })) 9, type := 9, pos := "ref.go:214", after := #[{ on := 6, ground := Go.Ground.data }], guard := none }) (v := _) rfl (by kernel_rfl) (by kernel_rfl) (by kernel_rfl) (fun _ _ _ h => h) (Or.inl ⟨by rfl, fun w' _ => add_str w' _ _ _ _ _ _ rfl rfl rfl q3⟩) (by assumption) ?_
  try simp only [Act.put, List.setIfInBounds_toArray, List.set_cons_zero, List.set_cons_succ]
  refine wpAnyH_take (i := 8) (oi := { dst := some 2, op := Go.Op.assign (Go.Operand.tmp 51), type := 9, pos := "ref.go:214", after := #[{ on := 7, ground := Go.Ground.data }, { on := 5, ground := Go.Ground.chain }, { on := 0, ground := Go.Ground.phase }, { on := 1, ground := Go.Ground.phase }, { on := 2, ground := Go.Ground.phase }, { on := 3, ground := Go.Ground.phase }, { on := 4, ground := Go.Ground.phase }, { on := 5, ground := Go.Ground.phase }, { on := 6, ground := Go.Ground.phase }, { on := 7, ground := Go.Ground.phase }], guard := none }) (v := ?_) rfl (by kernel_rfl) (by kernel_rfl) (by kernel_rfl) (fun _ _ _ h => h) (Or.inl ⟨by rfl, ?_⟩) (by assumption) ?_
  rotate_left
  · intro w hSw; clear hSw; go_simp; try with_reducible rfl
  try simp only [Act.put, List.setIfInBounds_toArray, List.set_cons_zero, List.set_cons_succ]
  refine wpAnyH_done (by kernel_rfl) ?_ _
  have hF := hHeld
  clear hHeld
  go_wp2_with fail
  go_ret
  exact ⟨⟨_, rfl, by simp [hE_T7.out, hSs.out, ← hkt' hN0.out]⟩, hF.1⟩
set_option maxRecDepth 100000 in
set_option maxHeartbeats 4000000 in
theorem rtx_k6 (hR : ∀ i x, ks.at_ i = some x → TxOk x) : TxOk ⟨6, n, s, ps, d, ks⟩ := by
  intro w vp vi vk h h1 hf hsz
  obtain ⟨P3, p3, rfl⟩ := h.p.read
  obtain ⟨I7, q7, rfl⟩ := h.d.read
  obtain ⟨A1, c1, rfl⟩ := h.k.read
  simp only at h h1 hf hsz ⊢
  have hPa := Lib.hid (fun (w' : World) (hb : Below w.heap.size w w') => rparams_any ⟨6, n, s, ps, d, ks⟩ w' _ _ _ (h.below hb) h1.w.q h1.w.p)
  have hKi := Lib.hid (fun (w' : World) (hb : Below w.heap.size w w') => rkids_any ks hR w' _ (h.k.below hb) hf hsz)
  have hLo := Lib.hid (fun (w' : World) => rlocal_any n h1.w.n w')
  have hin := Lib.hid h.d
  have hks := Lib.hid (h1.ks)
  have hd := Lib.hid (show (6 : Int) = 1 → TM.quo d = true from h1.w.d)
  have hsl := h1.w.s
  have htl := Lib.hid (txs_len true ks hf.tw)
  have hll := Lib.hid (show (TM.loc n).length ≤ 30 from TM.loc_len h1.w.n)
  have hpl := Lib.hid (TM.prt_len n ps h1.w.q)
  have hpl2 := Lib.hid h1.w.p
  simp only at hsl
  unfold tmv at *
  simp only at hPa hKi hks hin hpl2
  have hkt := Lib.hid (TM.txs_true ks)
  obtain ⟨TK, hTK⟩ : ∃ TK, TM.txs true ks = TK := ⟨_, rfl⟩
  obtain ⟨TF, hTF⟩ : ∃ TF, TM.txs false ks = TF := ⟨_, rfl⟩
  obtain ⟨LC, hLC⟩ : ∃ LC, TM.loc n = LC := ⟨_, rfl⟩
  obtain ⟨PT, hPT⟩ : ∃ PT, TM.prt n ps = PT := ⟨_, rfl⟩
  have hval : TM.ttx ⟨6, n, s, ps, d, ks⟩ = 40 :: (([100, 101, 102, 105, 110, 101, 32] ++ (s ++ [32])) ++ (TK ++ [41])) := by
    subst hTK hLC hPT; rfl
  rw [hval]
  rw [hTK, hTF] at hkt
  rw [hTK] at htl
  rw [hTF] at hKi
  rw [hLC] at hLo hll
  rw [hPT] at hPa hpl
  obtain ⟨S, hS⟩ : ∃ S : ByteArray, (⟨s.toArray⟩ : ByteArray) = S := ⟨_, rfl⟩
  have hSs : Hid (S.data.toList = s) := Lib.hid (by rw [← hS])
  have hSz : S.size ≤ 60 := by rw [← size_len, hSs.out]; exact hsl
  rw [hS] at hPa ⊢
  obtain ⟨N, hN⟩ : ∃ N, ks.len = N := ⟨_, rfl⟩
  obtain ⟨L3, hL3⟩ : ∃ x, ps.length = x := ⟨_, rfl⟩
  rw [hN] at hPa hKi hks hkt ⊢
  rw [hL3] at hPa hpl hpl2 ⊢
  clear hval hTK hTF hLC hPT hS hN hL3 hsl h h1 hf hR
  obtain ⟨dk, hdk⟩ : ∃ x, d.k = x := ⟨_, rfl⟩
  obtain ⟨dn, hdn⟩ : ∃ x, d.n = x := ⟨_, rfl⟩
  obtain ⟨DS, hDS⟩ : ∃ x : ByteArray, (⟨d.s.toArray⟩ : ByteArray) = x := ⟨_, rfl⟩
  obtain ⟨L7, hL7⟩ : ∃ x, d.is.len = x := ⟨_, rfl⟩
  rw [hdk, hdn, hDS, hL7] at hPa ⊢
  have hL := Lies.made w 28 #[.int .i64 6, .int .i64 n, .string S, .slice P3 L3 p3, .int .i64 dk, .int .i64 dn, .string DS, .slice I7 L7 q7, .slice A1 N c1]
  have hba : Below w.heap.size w (w.alloc (.cells #[.int .i64 6, .int .i64 n, .string S, .slice P3 L3 p3, .int .i64 dk, .int .i64 dn, .string DS, .slice I7 L7 q7, .slice A1 N c1] 28)) := (Below.refl _ w).alloc (Nat.le_refl _) _
  have hkt' : 0 < N → 32 :: TK = TF := hkt.out
  have hN0 : Hid (0 < N) := Lib.hid (hks.out (by omega))
  have hTFl : TF.length ≤ 6000000 * 5000 + 1 := by
    have h1 := hkt.out hN0.out
    have h2 := htl.out
    rw [← h1, List.length_cons]
    have : 6000000 * TM.sz ks ≤ 6000000 * 5000 := Nat.mul_le_mul_left _ hsz
    omega
  clear htl hll hkt hdk hdn hDS hL7 hin hd hks
  have hF : Bx w [.int .i64 6, .int .i64 n, .string S, .slice P3 L3 p3, .int .i64 dk, .int .i64 dn, .string DS, .slice I7 L7 q7, .slice A1 N c1] _ := ⟨hba, hL⟩
  clear hba hL
  have q1 : ¬ 9223372036854775807 < (⟨#[40, 100, 101, 102, 105, 110, 101, 32]⟩ : ByteArray).size + S.size := (by show ¬ _ < 8 + S.size; omega)
  go_enter Tryz.func44, Tryz.ntmps44
  go_wp2_with fail
  refine wp_region_held_drew (S := fun w' => Bx w [.int .i64 6, .int .i64 n, .string S, .slice P3 L3 p3, .int .i64 dk, .int .i64 dn, .string DS, .slice I7 L7 q7, .slice A1 N c1] w') rfl hF.drew (fun hHeld => ?_)
  clear hF
  refine wpAnyH_take (i := 0) (oi := { dst := some 54, op := Go.Op.fieldAddr 28 (Go.Operand.tmp 1) 2, type := 0, pos := "ref.go:216", after := #[], guard := none }) (v := ?_) rfl (by kernel_rfl) (by kernel_rfl) (by kernel_rfl) (fun _ _ _ h => h) (Or.inl ⟨by rfl, ?_⟩) (by assumption) ?_
  rotate_left
  · intro w hSw; clear hSw; go_simp; try with_reducible rfl
  try simp only [Act.put, List.setIfInBounds_toArray, List.set_cons_zero, List.set_cons_succ]
  refine wpAnyH_take (i := 1) (oi := { dst := some 55, op := Go.Op.load 9 (Go.Operand.tmp 54), type := 9, pos := "ref.go:216", after := #[{ on := 0, ground := Go.Ground.data }], guard := none }) (v := _) rfl (by kernel_rfl) (by kernel_rfl) (by kernel_rfl) (fun _ _ _ h => h) (Or.inl ⟨by rfl, fun w' hS => load_strx w' _ _ _ _ _ _ rfl rfl (show _ = some _ from hS.2.cell 2)⟩) (by assumption) ?_
  try simp only [Act.put, List.setIfInBounds_toArray, List.set_cons_zero, List.set_cons_succ]
  refine wpAnyH_take (i := 2) (oi := { dst := some 56, op := Go.Op.binOp Go.BinOp.add 9 (Go.Operand.const (Go.Value.string { data := #[40, 100, 101, 102, 105, 110, 101, 32] })) (Go.Operand.tmp 55) 9, type := 9, pos := "ref.go:216", after := #[{ on := 1, ground := Go.Ground.data }], guard := none }) (v := _) rfl (by kernel_rfl) (by kernel_rfl) (by kernel_rfl) (fun _ _ _ h => h) (Or.inl ⟨by rfl, fun w' _ => add_str w' _ _ _ _ _ _ rfl rfl rfl q1⟩) (by assumption) ?_
  try simp only [Act.put, List.setIfInBounds_toArray, List.set_cons_zero, List.set_cons_succ]
  refine wpAnyH_take (i := 3) (oi := { dst := some 57, op := Go.Op.fieldAddr 28 (Go.Operand.tmp 1) 5, type := 0, pos := "ref.go:216", after := #[], guard := none }) (v := ?_) rfl (by kernel_rfl) (by kernel_rfl) (by kernel_rfl) (fun _ _ _ h => h) (Or.inl ⟨by rfl, ?_⟩) (by assumption) ?_
  rotate_left
  · intro w hSw; clear hSw; go_simp; try with_reducible rfl
  try simp only [Act.put, List.setIfInBounds_toArray, List.set_cons_zero, List.set_cons_succ]
  refine wpAnyH_take (i := 4) (oi := { dst := some 58, op := Go.Op.load 26 (Go.Operand.tmp 57), type := 26, pos := "ref.go:216", after := #[{ on := 3, ground := Go.Ground.data }], guard := none }) (v := _) rfl (by kernel_rfl) (by kernel_rfl) (by kernel_rfl) (fun _ _ _ h => h) (Or.inl ⟨by rfl, fun w' hS => load_tms w' _ _ _ _ _ _ _ _ rfl rfl (show _ = some _ from hS.2.cell 8)⟩) (by assumption) ?_
  try simp only [Act.put, List.setIfInBounds_toArray, List.set_cons_zero, List.set_cons_succ]
  refine wpAnyH_ready (rs := [5]) (by kernel_rfl) (by simp) ?_
  refine AllReadyH.cons (o := { dst := some 59, op := Go.Op.call { callee := Go.Callee.value (Go.Operand.func 68), args := #[Go.Operand.tmp 58], argTypes := #[26] }, type := 9, pos := "ref.go:216", after := #[{ on := 4, ground := Go.Ground.data }], guard := none }) rfl (fun K hK => ?_) AllReadyH.nil
  rw [if_pos (by rfl)]
  go_simp
  refine (hKi.out _ hHeld.1).mono ?_
  rintro e w9 ⟨⟨T7, rfl, hT9⟩, hb9⟩
  have hE_T7 := Lib.hid hT9
  have hZ_T7 : T7.size ≤ 6000000 * 5000 + 1 := (by rw [← size_len, hT9]; exact hTFl)
  have q2 : ¬ 9223372036854775807 < ((⟨#[40, 100, 101, 102, 105, 110, 101, 32]⟩ : ByteArray) ++ S).size + T7.size := (by rw [ByteArray.size_append]; show ¬ _ < 8 + S.size + T7.size; omega)
  have q3 : ¬ 9223372036854775807 < ((⟨#[40, 100, 101, 102, 105, 110, 101, 32]⟩ : ByteArray) ++ S ++ T7).size + (⟨#[41]⟩ : ByteArray).size := (by rw [ByteArray.size_append, ByteArray.size_append]; show ¬ _ < 8 + S.size + T7.size + 1; omega)
  have hMM := hHeld.below hb9
  clear hb9 hT9 hHeld
  refine hK.out _ _ hMM (fun hHeld => ?_)
  clear hK K
  try simp only [Act.put, List.setIfInBounds_toArray, List.set_cons_zero, List.set_cons_succ]
  refine wpAnyH_take (i := 6) (oi := { dst := some 60, op := Go.Op.binOp Go.BinOp.add 9 (Go.Operand.tmp 56) (Go.Operand.tmp 59) 9, type := 9, pos := "ref.go:216", after := #[{ on := 2, ground := Go.Ground.data }, { on := 5, ground := Go.Ground.data }], guard := none }) (v := _) rfl (by kernel_rfl) (by kernel_rfl) (by kernel_rfl) (fun _ _ _ h => h) (Or.inl ⟨by rfl, fun w' _ => add_str w' _ _ _ _ _ _ rfl rfl rfl q2⟩) (by assumption) ?_
  try simp only [Act.put, List.setIfInBounds_toArray, List.set_cons_zero, List.set_cons_succ]
  refine wpAnyH_take (i := 7) (oi := { dst := some 61, op := Go.Op.binOp Go.BinOp.add 9 (Go.Operand.tmp 60) (Go.Operand.const (Go.Value.string { data := #[41] })) 9, type := 9, pos := "ref.go:216", after := #[{ on := 6, ground := Go.Ground.data }], guard := none }) (v := _) rfl (by kernel_rfl) (by kernel_rfl) (by kernel_rfl) (fun _ _ _ h => h) (Or.inl ⟨by rfl, fun w' _ => add_str w' _ _ _ _ _ _ rfl rfl rfl q3⟩) (by assumption) ?_
  try simp only [Act.put, List.setIfInBounds_toArray, List.set_cons_zero, List.set_cons_succ]
  refine wpAnyH_take (i := 8) (oi := { dst := some 2, op := Go.Op.assign (Go.Operand.tmp 61), type := 9, pos := "ref.go:216", after := #[{ on := 7, ground := Go.Ground.data }, { on := 5, ground := Go.Ground.chain }, { on := 0, ground := Go.Ground.phase }, { on := 1, ground := Go.Ground.phase }, { on := 2, ground := Go.Ground.phase }, { on := 3, ground := Go.Ground.phase }, { on := 4, ground := Go.Ground.phase }, { on := 5, ground := Go.Ground.phase }, { on := 6, ground := Go.Ground.phase }, { on := 7, ground := Go.Ground.phase }], guard := none }) (v := ?_) rfl (by kernel_rfl) (by kernel_rfl) (by kernel_rfl) (fun _ _ _ h => h) (Or.inl ⟨by rfl, ?_⟩) (by assumption) ?_
  rotate_left
  · intro w hSw; clear hSw; go_simp; try with_reducible rfl
  try simp only [Act.put, List.setIfInBounds_toArray, List.set_cons_zero, List.set_cons_succ]
  refine wpAnyH_done (by kernel_rfl) ?_ _
  have hF := hHeld
  clear hHeld
  go_wp2_with fail
  go_ret
  exact ⟨⟨_, rfl, by simp [hE_T7.out, hSs.out, ← hkt' hN0.out]⟩, hF.1⟩
set_option maxRecDepth 100000 in
set_option maxHeartbeats 4000000 in
theorem rtx_k7 (hR : ∀ i x, ks.at_ i = some x → TxOk x) : TxOk ⟨7, n, s, ps, d, ks⟩ := by
  intro w vp vi vk h h1 hf hsz
  obtain ⟨P3, p3, rfl⟩ := h.p.read
  obtain ⟨I7, q7, rfl⟩ := h.d.read
  obtain ⟨A1, c1, rfl⟩ := h.k.read
  simp only at h h1 hf hsz ⊢
  have hPa := Lib.hid (fun (w' : World) (hb : Below w.heap.size w w') => rparams_any ⟨7, n, s, ps, d, ks⟩ w' _ _ _ (h.below hb) h1.w.q h1.w.p)
  have hKi := Lib.hid (fun (w' : World) (hb : Below w.heap.size w w') => rkids_any ks hR w' _ (h.k.below hb) hf hsz)
  have hLo := Lib.hid (fun (w' : World) => rlocal_any n h1.w.n w')
  have hin := Lib.hid h.d
  have hks := Lib.hid (h1.ks)
  have hd := Lib.hid (show (7 : Int) = 1 → TM.quo d = true from h1.w.d)
  have hsl := h1.w.s
  have htl := Lib.hid (txs_len true ks hf.tw)
  have hll := Lib.hid (show (TM.loc n).length ≤ 30 from TM.loc_len h1.w.n)
  have hpl := Lib.hid (TM.prt_len n ps h1.w.q)
  have hpl2 := Lib.hid h1.w.p
  simp only at hsl
  unfold tmv at *
  simp only at hPa hKi hks hin hpl2
  have hkt := Lib.hid (TM.txs_true ks)
  obtain ⟨TK, hTK⟩ : ∃ TK, TM.txs true ks = TK := ⟨_, rfl⟩
  obtain ⟨TF, hTF⟩ : ∃ TF, TM.txs false ks = TF := ⟨_, rfl⟩
  obtain ⟨LC, hLC⟩ : ∃ LC, TM.loc n = LC := ⟨_, rfl⟩
  obtain ⟨PT, hPT⟩ : ∃ PT, TM.prt n ps = PT := ⟨_, rfl⟩
  have hval : TM.ttx ⟨7, n, s, ps, d, ks⟩ = 40 :: ([105, 102, 32] ++ (TK ++ [41])) := by
    subst hTK hLC hPT; rfl
  rw [hval]
  rw [hTK, hTF] at hkt
  rw [hTK] at htl
  rw [hTF] at hKi
  rw [hLC] at hLo hll
  rw [hPT] at hPa hpl
  obtain ⟨S, hS⟩ : ∃ S : ByteArray, (⟨s.toArray⟩ : ByteArray) = S := ⟨_, rfl⟩
  have hSs : Hid (S.data.toList = s) := Lib.hid (by rw [← hS])
  have hSz : S.size ≤ 60 := by rw [← size_len, hSs.out]; exact hsl
  rw [hS] at hPa ⊢
  obtain ⟨N, hN⟩ : ∃ N, ks.len = N := ⟨_, rfl⟩
  obtain ⟨L3, hL3⟩ : ∃ x, ps.length = x := ⟨_, rfl⟩
  rw [hN] at hPa hKi hks hkt ⊢
  rw [hL3] at hPa hpl hpl2 ⊢
  clear hval hTK hTF hLC hPT hS hN hL3 hsl h h1 hf hR
  obtain ⟨dk, hdk⟩ : ∃ x, d.k = x := ⟨_, rfl⟩
  obtain ⟨dn, hdn⟩ : ∃ x, d.n = x := ⟨_, rfl⟩
  obtain ⟨DS, hDS⟩ : ∃ x : ByteArray, (⟨d.s.toArray⟩ : ByteArray) = x := ⟨_, rfl⟩
  obtain ⟨L7, hL7⟩ : ∃ x, d.is.len = x := ⟨_, rfl⟩
  rw [hdk, hdn, hDS, hL7] at hPa ⊢
  have hL := Lies.made w 28 #[.int .i64 7, .int .i64 n, .string S, .slice P3 L3 p3, .int .i64 dk, .int .i64 dn, .string DS, .slice I7 L7 q7, .slice A1 N c1]
  have hba : Below w.heap.size w (w.alloc (.cells #[.int .i64 7, .int .i64 n, .string S, .slice P3 L3 p3, .int .i64 dk, .int .i64 dn, .string DS, .slice I7 L7 q7, .slice A1 N c1] 28)) := (Below.refl _ w).alloc (Nat.le_refl _) _
  have hkt' : 0 < N → 32 :: TK = TF := hkt.out
  have hN0 : Hid (0 < N) := Lib.hid (hks.out (by omega))
  have hTFl : TF.length ≤ 6000000 * 5000 + 1 := by
    have h1 := hkt.out hN0.out
    have h2 := htl.out
    rw [← h1, List.length_cons]
    have : 6000000 * TM.sz ks ≤ 6000000 * 5000 := Nat.mul_le_mul_left _ hsz
    omega
  clear hPa hLo htl hll hpl hpl2 hkt hdk hdn hDS hL7 hin hd hks
  go_enter Tryz.func44, Tryz.ntmps44
  go_wp2_with (
    go_at_call 68
    refine (hKi.out _ hba).mono ?_
    rintro e w7 ⟨⟨T7, rfl, hT7⟩, hb7⟩
    have hT7' := Lib.hid hT7
    have hTs7 : T7.size ≤ 6000000 * 5000 + 1 := (by rw [← size_len, hT7]; exact hTFl)
    clear hT7)
  go_ret
  exact ⟨⟨_, rfl, by first | (simp [hT7'.out, ← hkt' hN0.out]; done) | (rw [ByteArray.data_append, Array.toList_append, ByteArray.data_append, Array.toList_append, ext_drop, hT7'.out, ← hkt' hN0.out]; rfl)⟩, hba.trans (hb7.mono hba.size)⟩
set_option maxRecDepth 100000 in
set_option maxHeartbeats 4000000 in
theorem rtx_k8 (hR : ∀ i x, ks.at_ i = some x → TxOk x) : TxOk ⟨8, n, s, ps, d, ks⟩ := by
  intro w vp vi vk h h1 hf hsz
  obtain ⟨P3, p3, rfl⟩ := h.p.read
  obtain ⟨I7, q7, rfl⟩ := h.d.read
  obtain ⟨A1, c1, rfl⟩ := h.k.read
  simp only at h h1 hf hsz ⊢
  have hPa := Lib.hid (fun (w' : World) (hb : Below w.heap.size w w') => rparams_any ⟨8, n, s, ps, d, ks⟩ w' _ _ _ (h.below hb) h1.w.q h1.w.p)
  have hKi := Lib.hid (fun (w' : World) (hb : Below w.heap.size w w') => rkids_any ks hR w' _ (h.k.below hb) hf hsz)
  have hLo := Lib.hid (fun (w' : World) => rlocal_any n h1.w.n w')
  have hin := Lib.hid h.d
  have hks := Lib.hid (h1.ks)
  have hd := Lib.hid (show (8 : Int) = 1 → TM.quo d = true from h1.w.d)
  have hsl := h1.w.s
  have htl := Lib.hid (txs_len true ks hf.tw)
  have hll := Lib.hid (show (TM.loc n).length ≤ 30 from TM.loc_len h1.w.n)
  have hpl := Lib.hid (TM.prt_len n ps h1.w.q)
  have hpl2 := Lib.hid h1.w.p
  simp only at hsl
  unfold tmv at *
  simp only at hPa hKi hks hin hpl2
  have hkt := Lib.hid (TM.txs_true ks)
  obtain ⟨TK, hTK⟩ : ∃ TK, TM.txs true ks = TK := ⟨_, rfl⟩
  obtain ⟨TF, hTF⟩ : ∃ TF, TM.txs false ks = TF := ⟨_, rfl⟩
  obtain ⟨LC, hLC⟩ : ∃ LC, TM.loc n = LC := ⟨_, rfl⟩
  obtain ⟨PT, hPT⟩ : ∃ PT, TM.prt n ps = PT := ⟨_, rfl⟩
  have hval : TM.ttx ⟨8, n, s, ps, d, ks⟩ = 40 :: (([108, 97, 109, 98, 100, 97, 32] ++ (PT ++ [32])) ++ (TK ++ [41])) := by
    subst hTK hLC hPT; rfl
  rw [hval]
  rw [hTK, hTF] at hkt
  rw [hTK] at htl
  rw [hTF] at hKi
  rw [hLC] at hLo hll
  rw [hPT] at hPa hpl
  obtain ⟨S, hS⟩ : ∃ S : ByteArray, (⟨s.toArray⟩ : ByteArray) = S := ⟨_, rfl⟩
  have hSs : Hid (S.data.toList = s) := Lib.hid (by rw [← hS])
  have hSz : S.size ≤ 60 := by rw [← size_len, hSs.out]; exact hsl
  rw [hS] at hPa ⊢
  obtain ⟨N, hN⟩ : ∃ N, ks.len = N := ⟨_, rfl⟩
  obtain ⟨L3, hL3⟩ : ∃ x, ps.length = x := ⟨_, rfl⟩
  rw [hN] at hPa hKi hks hkt ⊢
  rw [hL3] at hPa hpl hpl2 ⊢
  clear hval hTK hTF hLC hPT hS hN hL3 hsl h h1 hf hR
  obtain ⟨dk, hdk⟩ : ∃ x, d.k = x := ⟨_, rfl⟩
  obtain ⟨dn, hdn⟩ : ∃ x, d.n = x := ⟨_, rfl⟩
  obtain ⟨DS, hDS⟩ : ∃ x : ByteArray, (⟨d.s.toArray⟩ : ByteArray) = x := ⟨_, rfl⟩
  obtain ⟨L7, hL7⟩ : ∃ x, d.is.len = x := ⟨_, rfl⟩
  rw [hdk, hdn, hDS, hL7] at hPa ⊢
  have hL := Lies.made w 28 #[.int .i64 8, .int .i64 n, .string S, .slice P3 L3 p3, .int .i64 dk, .int .i64 dn, .string DS, .slice I7 L7 q7, .slice A1 N c1]
  have hba : Below w.heap.size w (w.alloc (.cells #[.int .i64 8, .int .i64 n, .string S, .slice P3 L3 p3, .int .i64 dk, .int .i64 dn, .string DS, .slice I7 L7 q7, .slice A1 N c1] 28)) := (Below.refl _ w).alloc (Nat.le_refl _) _
  have hkt' : 0 < N → 32 :: TK = TF := hkt.out
  have hN0 : Hid (0 < N) := Lib.hid (hks.out (by omega))
  have hTFl : TF.length ≤ 6000000 * 5000 + 1 := by
    have h1 := hkt.out hN0.out
    have h2 := htl.out
    rw [← h1, List.length_cons]
    have : 6000000 * TM.sz ks ≤ 6000000 * 5000 := Nat.mul_le_mul_left _ hsz
    omega
  have hPTl : PT.length ≤ 40 * 24 + 2 := by have := hpl.out; have := hpl2.out; omega
  clear htl hll hkt hdk hdn hDS hL7 hin hd hks
  have hF : Bx w [.int .i64 8, .int .i64 n, .string S, .slice P3 L3 p3, .int .i64 dk, .int .i64 dn, .string DS, .slice I7 L7 q7, .slice A1 N c1] _ := ⟨hba, hL⟩
  clear hba hL
  go_enter Tryz.func44, Tryz.ntmps44
  go_wp2_with fail
  refine wp_region_held_drew (S := fun w' => Bx w [.int .i64 8, .int .i64 n, .string S, .slice P3 L3 p3, .int .i64 dk, .int .i64 dn, .string DS, .slice I7 L7 q7, .slice A1 N c1] w') rfl hF.drew (fun hHeld => ?_)
  clear hF
  refine wpAnyH_take (i := 0) (oi := { dst := some 71, op := Go.Op.load 28 (Go.Operand.tmp 1), type := 28, pos := "ref.go:220", after := #[], guard := none }) (v := _) rfl (by kernel_rfl) (by kernel_rfl) (by kernel_rfl) (fun _ _ _ h => h) (Or.inl ⟨by rfl, fun w' hS => load_term w' _ _ _ _ _ _ _ _ _ _ _ _ _ rfl rfl hS.2⟩) (by assumption) ?_
  try simp only [Act.put, List.setIfInBounds_toArray, List.set_cons_zero, List.set_cons_succ]
  refine wpAnyH_take (i := 3) (oi := { dst := some 74, op := Go.Op.fieldAddr 28 (Go.Operand.tmp 1) 5, type := 0, pos := "ref.go:220", after := #[], guard := none }) (v := ?_) rfl (by kernel_rfl) (by kernel_rfl) (by kernel_rfl) (fun _ _ _ h => h) (Or.inl ⟨by rfl, ?_⟩) (by assumption) ?_
  rotate_left
  · intro w hSw; clear hSw; go_simp; try with_reducible rfl
  try simp only [Act.put, List.setIfInBounds_toArray, List.set_cons_zero, List.set_cons_succ]
  refine wpAnyH_take (i := 4) (oi := { dst := some 75, op := Go.Op.load 26 (Go.Operand.tmp 74), type := 26, pos := "ref.go:220", after := #[{ on := 3, ground := Go.Ground.data }], guard := none }) (v := _) rfl (by kernel_rfl) (by kernel_rfl) (by kernel_rfl) (fun _ _ _ h => h) (Or.inl ⟨by rfl, fun w' hS => load_tms w' _ _ _ _ _ _ _ _ rfl rfl (show _ = some _ from hS.2.cell 8)⟩) (by assumption) ?_
  try simp only [Act.put, List.setIfInBounds_toArray, List.set_cons_zero, List.set_cons_succ]
  refine wpAnyH_ready (rs := [1]) (by kernel_rfl) (by simp) ?_
  refine AllReadyH.cons (o := { dst := some 72, op := Go.Op.call { callee := Go.Callee.value (Go.Operand.func 69), args := #[Go.Operand.tmp 71], argTypes := #[28] }, type := 9, pos := "ref.go:220", after := #[{ on := 0, ground := Go.Ground.data }], guard := none }) rfl (fun K hK => ?_) AllReadyH.nil
  rw [if_pos (by rfl)]
  go_simp
  refine (hPa.out _ hHeld.1).mono ?_
  rintro e w9 ⟨⟨T5, rfl, hT9⟩, hb9⟩
  have hE_T5 := Lib.hid hT9
  have hZ_T5 : T5.size ≤ 40 * 24 + 2 := (by rw [← size_len, hT9]; exact hPTl)
  have q1 : ¬ 9223372036854775807 < (⟨#[40, 108, 97, 109, 98, 100, 97, 32]⟩ : ByteArray).size + T5.size := (by show ¬ _ < 8 + T5.size; omega)
  have hMM := hHeld.below hb9
  clear hb9 hT9 hHeld
  refine hK.out _ _ hMM (fun hHeld => ?_)
  clear hK K
  try simp only [Act.put, List.setIfInBounds_toArray, List.set_cons_zero, List.set_cons_succ]
  refine wpAnyH_take (i := 2) (oi := { dst := some 73, op := Go.Op.binOp Go.BinOp.add 9 (Go.Operand.const (Go.Value.string { data := #[40, 108, 97, 109, 98, 100, 97, 32] })) (Go.Operand.tmp 72) 9, type := 9, pos := "ref.go:220", after := #[{ on := 1, ground := Go.Ground.data }], guard := none }) (v := _) rfl (by kernel_rfl) (by kernel_rfl) (by kernel_rfl) (fun _ _ _ h => h) (Or.inl ⟨by rfl, fun w' _ => add_str w' _ _ _ _ _ _ rfl rfl rfl q1⟩) (by assumption) ?_
  try simp only [Act.put, List.setIfInBounds_toArray, List.set_cons_zero, List.set_cons_succ]
  refine wpAnyH_ready (rs := [5]) (by kernel_rfl) (by simp) ?_
  refine AllReadyH.cons (o := { dst := some 76, op := Go.Op.call { callee := Go.Callee.value (Go.Operand.func 68), args := #[Go.Operand.tmp 75], argTypes := #[26] }, type := 9, pos := "ref.go:220", after := #[{ on := 4, ground := Go.Ground.data }, { on := 1, ground := Go.Ground.chain }], guard := none }) rfl (fun K hK => ?_) AllReadyH.nil
  rw [if_pos (by rfl)]
  go_simp
  refine (hKi.out _ hHeld.1).mono ?_
  rintro e w9 ⟨⟨T7, rfl, hT9⟩, hb9⟩
  have hE_T7 := Lib.hid hT9
  have hZ_T7 : T7.size ≤ 6000000 * 5000 + 1 := (by rw [← size_len, hT9]; exact hTFl)
  have q2 : ¬ 9223372036854775807 < ((⟨#[40, 108, 97, 109, 98, 100, 97, 32]⟩ : ByteArray) ++ T5).size + T7.size := (by rw [ByteArray.size_append]; show ¬ _ < 8 + T5.size + T7.size; omega)
  have q3 : ¬ 9223372036854775807 < ((⟨#[40, 108, 97, 109, 98, 100, 97, 32]⟩ : ByteArray) ++ T5 ++ T7).size + (⟨#[41]⟩ : ByteArray).size := (by rw [ByteArray.size_append, ByteArray.size_append]; show ¬ _ < 8 + T5.size + T7.size + 1; omega)
  have hMM := hHeld.below hb9
  clear hb9 hT9 hHeld
  refine hK.out _ _ hMM (fun hHeld => ?_)
  clear hK K
  try simp only [Act.put, List.setIfInBounds_toArray, List.set_cons_zero, List.set_cons_succ]
  refine wpAnyH_take (i := 6) (oi := { dst := some 77, op := Go.Op.binOp Go.BinOp.add 9 (Go.Operand.tmp 73) (Go.Operand.tmp 76) 9, type := 9, pos := "ref.go:220", after := #[{ on := 2, ground := Go.Ground.data }, { on := 5, ground := Go.Ground.data }], guard := none }) (v := _) rfl (by kernel_rfl) (by kernel_rfl) (by kernel_rfl) (fun _ _ _ h => h) (Or.inl ⟨by rfl, fun w' _ => add_str w' _ _ _ _ _ _ rfl rfl rfl q2⟩) (by assumption) ?_
  try simp only [Act.put, List.setIfInBounds_toArray, List.set_cons_zero, List.set_cons_succ]
  refine wpAnyH_take (i := 7) (oi := { dst := some 78, op := Go.Op.binOp Go.BinOp.add 9 (Go.Operand.tmp 77) (Go.Operand.const (Go.Value.string { data := #[41] })) 9, type := 9, pos := "ref.go:220", after := #[{ on := 6, ground := Go.Ground.data }], guard := none }) (v := _) rfl (by kernel_rfl) (by kernel_rfl) (by kernel_rfl) (fun _ _ _ h => h) (Or.inl ⟨by rfl, fun w' _ => add_str w' _ _ _ _ _ _ rfl rfl rfl q3⟩) (by assumption) ?_
  try simp only [Act.put, List.setIfInBounds_toArray, List.set_cons_zero, List.set_cons_succ]
  refine wpAnyH_take (i := 8) (oi := { dst := some 2, op := Go.Op.assign (Go.Operand.tmp 78), type := 9, pos := "ref.go:220", after := #[{ on := 7, ground := Go.Ground.data }, { on := 5, ground := Go.Ground.chain }, { on := 0, ground := Go.Ground.phase }, { on := 1, ground := Go.Ground.phase }, { on := 2, ground := Go.Ground.phase }, { on := 3, ground := Go.Ground.phase }, { on := 4, ground := Go.Ground.phase }, { on := 5, ground := Go.Ground.phase }, { on := 6, ground := Go.Ground.phase }, { on := 7, ground := Go.Ground.phase }], guard := none }) (v := ?_) rfl (by kernel_rfl) (by kernel_rfl) (by kernel_rfl) (fun _ _ _ h => h) (Or.inl ⟨by rfl, ?_⟩) (by assumption) ?_
  rotate_left
  · intro w hSw; clear hSw; go_simp; try with_reducible rfl
  try simp only [Act.put, List.setIfInBounds_toArray, List.set_cons_zero, List.set_cons_succ]
  refine wpAnyH_done (by kernel_rfl) ?_ _
  have hF := hHeld
  clear hHeld
  go_wp2_with fail
  go_ret
  exact ⟨⟨_, rfl, by simp [hE_T5.out, hE_T7.out, ← hkt' hN0.out]⟩, hF.1⟩
set_option maxRecDepth 100000 in
set_option maxHeartbeats 4000000 in
theorem rtx_k9 (hR : ∀ i x, ks.at_ i = some x → TxOk x) : TxOk ⟨9, n, s, ps, d, ks⟩ := by
  intro w vp vi vk h h1 hf hsz
  obtain ⟨P3, p3, rfl⟩ := h.p.read
  obtain ⟨I7, q7, rfl⟩ := h.d.read
  obtain ⟨A1, c1, rfl⟩ := h.k.read
  simp only at h h1 hf hsz ⊢
  have hPa := Lib.hid (fun (w' : World) (hb : Below w.heap.size w w') => rparams_any ⟨9, n, s, ps, d, ks⟩ w' _ _ _ (h.below hb) h1.w.q h1.w.p)
  have hKi := Lib.hid (fun (w' : World) (hb : Below w.heap.size w w') => rkids_any ks hR w' _ (h.k.below hb) hf hsz)
  have hLo := Lib.hid (fun (w' : World) => rlocal_any n h1.w.n w')
  have hin := Lib.hid h.d
  have hks := Lib.hid (h1.ks)
  have hd := Lib.hid (show (9 : Int) = 1 → TM.quo d = true from h1.w.d)
  have hsl := h1.w.s
  have htl := Lib.hid (txs_len true ks hf.tw)
  have hll := Lib.hid (show (TM.loc n).length ≤ 30 from TM.loc_len h1.w.n)
  have hpl := Lib.hid (TM.prt_len n ps h1.w.q)
  have hpl2 := Lib.hid h1.w.p
  simp only at hsl
  unfold tmv at *
  simp only at hPa hKi hks hin hpl2
  have hkt := Lib.hid (TM.txs_true ks)
  obtain ⟨TK, hTK⟩ : ∃ TK, TM.txs true ks = TK := ⟨_, rfl⟩
  obtain ⟨TF, hTF⟩ : ∃ TF, TM.txs false ks = TF := ⟨_, rfl⟩
  obtain ⟨LC, hLC⟩ : ∃ LC, TM.loc n = LC := ⟨_, rfl⟩
  obtain ⟨PT, hPT⟩ : ∃ PT, TM.prt n ps = PT := ⟨_, rfl⟩
  have hval : TM.ttx ⟨9, n, s, ps, d, ks⟩ = 40 :: ([98, 101, 103, 105, 110, 32] ++ (TK ++ [41])) := by
    subst hTK hLC hPT; rfl
  rw [hval]
  rw [hTK, hTF] at hkt
  rw [hTK] at htl
  rw [hTF] at hKi
  rw [hLC] at hLo hll
  rw [hPT] at hPa hpl
  obtain ⟨S, hS⟩ : ∃ S : ByteArray, (⟨s.toArray⟩ : ByteArray) = S := ⟨_, rfl⟩
  have hSs : Hid (S.data.toList = s) := Lib.hid (by rw [← hS])
  have hSz : S.size ≤ 60 := by rw [← size_len, hSs.out]; exact hsl
  rw [hS] at hPa ⊢
  obtain ⟨N, hN⟩ : ∃ N, ks.len = N := ⟨_, rfl⟩
  obtain ⟨L3, hL3⟩ : ∃ x, ps.length = x := ⟨_, rfl⟩
  rw [hN] at hPa hKi hks hkt ⊢
  rw [hL3] at hPa hpl hpl2 ⊢
  clear hval hTK hTF hLC hPT hS hN hL3 hsl h h1 hf hR
  obtain ⟨dk, hdk⟩ : ∃ x, d.k = x := ⟨_, rfl⟩
  obtain ⟨dn, hdn⟩ : ∃ x, d.n = x := ⟨_, rfl⟩
  obtain ⟨DS, hDS⟩ : ∃ x : ByteArray, (⟨d.s.toArray⟩ : ByteArray) = x := ⟨_, rfl⟩
  obtain ⟨L7, hL7⟩ : ∃ x, d.is.len = x := ⟨_, rfl⟩
  rw [hdk, hdn, hDS, hL7] at hPa ⊢
  have hL := Lies.made w 28 #[.int .i64 9, .int .i64 n, .string S, .slice P3 L3 p3, .int .i64 dk, .int .i64 dn, .string DS, .slice I7 L7 q7, .slice A1 N c1]
  have hba : Below w.heap.size w (w.alloc (.cells #[.int .i64 9, .int .i64 n, .string S, .slice P3 L3 p3, .int .i64 dk, .int .i64 dn, .string DS, .slice I7 L7 q7, .slice A1 N c1] 28)) := (Below.refl _ w).alloc (Nat.le_refl _) _
  have hkt' : 0 < N → 32 :: TK = TF := hkt.out
  have hN0 : Hid (0 < N) := Lib.hid (hks.out (by omega))
  have hTFl : TF.length ≤ 6000000 * 5000 + 1 := by
    have h1 := hkt.out hN0.out
    have h2 := htl.out
    rw [← h1, List.length_cons]
    have : 6000000 * TM.sz ks ≤ 6000000 * 5000 := Nat.mul_le_mul_left _ hsz
    omega
  clear hPa hLo htl hll hpl hpl2 hkt hdk hdn hDS hL7 hin hd hks
  go_enter Tryz.func44, Tryz.ntmps44
  go_wp2_with (
    go_at_call 68
    refine (hKi.out _ hba).mono ?_
    rintro e w7 ⟨⟨T7, rfl, hT7⟩, hb7⟩
    have hT7' := Lib.hid hT7
    have hTs7 : T7.size ≤ 6000000 * 5000 + 1 := (by rw [← size_len, hT7]; exact hTFl)
    clear hT7)
  go_ret
  exact ⟨⟨_, rfl, by first | (simp [hT7'.out, ← hkt' hN0.out]; done) | (rw [ByteArray.data_append, Array.toList_append, ByteArray.data_append, Array.toList_append, ext_drop, hT7'.out, ← hkt' hN0.out]; rfl)⟩, hba.trans (hb7.mono hba.size)⟩
set_option maxRecDepth 100000 in
set_option maxHeartbeats 4000000 in
theorem rtx_k10 (hR : ∀ i x, ks.at_ i = some x → TxOk x) : TxOk ⟨10, n, s, ps, d, ks⟩ := by
  intro w vp vi vk h h1 hf hsz
  obtain ⟨P3, p3, rfl⟩ := h.p.read
  obtain ⟨I7, q7, rfl⟩ := h.d.read
  obtain ⟨A1, c1, rfl⟩ := h.k.read
  simp only at h h1 hf hsz ⊢
  have hPa := Lib.hid (fun (w' : World) (hb : Below w.heap.size w w') => rparams_any ⟨10, n, s, ps, d, ks⟩ w' _ _ _ (h.below hb) h1.w.q h1.w.p)
  have hKi := Lib.hid (fun (w' : World) (hb : Below w.heap.size w w') => rkids_any ks hR w' _ (h.k.below hb) hf hsz)
  have hLo := Lib.hid (fun (w' : World) => rlocal_any n h1.w.n w')
  have hin := Lib.hid h.d
  have hks := Lib.hid (h1.ks)
  have hd := Lib.hid (show (10 : Int) = 1 → TM.quo d = true from h1.w.d)
  have hsl := h1.w.s
  have htl := Lib.hid (txs_len true ks hf.tw)
  have hll := Lib.hid (show (TM.loc n).length ≤ 30 from TM.loc_len h1.w.n)
  have hpl := Lib.hid (TM.prt_len n ps h1.w.q)
  have hpl2 := Lib.hid h1.w.p
  simp only at hsl
  unfold tmv at *
  simp only at hPa hKi hks hin hpl2
  have hkt := Lib.hid (TM.txs_true ks)
  obtain ⟨TK, hTK⟩ : ∃ TK, TM.txs true ks = TK := ⟨_, rfl⟩
  obtain ⟨TF, hTF⟩ : ∃ TF, TM.txs false ks = TF := ⟨_, rfl⟩
  obtain ⟨LC, hLC⟩ : ∃ LC, TM.loc n = LC := ⟨_, rfl⟩
  obtain ⟨PT, hPT⟩ : ∃ PT, TM.prt n ps = PT := ⟨_, rfl⟩
  have hval : TM.ttx ⟨10, n, s, ps, d, ks⟩ = 40 :: ([] ++ (TK ++ [41])) := by
    subst hTK hLC hPT; rfl
  rw [hval]
  rw [hTK, hTF] at hkt
  rw [hTK] at htl
  rw [hTF] at hKi
  rw [hLC] at hLo hll
  rw [hPT] at hPa hpl
  obtain ⟨S, hS⟩ : ∃ S : ByteArray, (⟨s.toArray⟩ : ByteArray) = S := ⟨_, rfl⟩
  have hSs : Hid (S.data.toList = s) := Lib.hid (by rw [← hS])
  have hSz : S.size ≤ 60 := by rw [← size_len, hSs.out]; exact hsl
  rw [hS] at hPa ⊢
  obtain ⟨N, hN⟩ : ∃ N, ks.len = N := ⟨_, rfl⟩
  obtain ⟨L3, hL3⟩ : ∃ x, ps.length = x := ⟨_, rfl⟩
  rw [hN] at hPa hKi hks hkt ⊢
  rw [hL3] at hPa hpl hpl2 ⊢
  clear hval hTK hTF hLC hPT hS hN hL3 hsl h h1 hf hR
  obtain ⟨dk, hdk⟩ : ∃ x, d.k = x := ⟨_, rfl⟩
  obtain ⟨dn, hdn⟩ : ∃ x, d.n = x := ⟨_, rfl⟩
  obtain ⟨DS, hDS⟩ : ∃ x : ByteArray, (⟨d.s.toArray⟩ : ByteArray) = x := ⟨_, rfl⟩
  obtain ⟨L7, hL7⟩ : ∃ x, d.is.len = x := ⟨_, rfl⟩
  rw [hdk, hdn, hDS, hL7] at hPa ⊢
  have hL := Lies.made w 28 #[.int .i64 10, .int .i64 n, .string S, .slice P3 L3 p3, .int .i64 dk, .int .i64 dn, .string DS, .slice I7 L7 q7, .slice A1 N c1]
  have hba : Below w.heap.size w (w.alloc (.cells #[.int .i64 10, .int .i64 n, .string S, .slice P3 L3 p3, .int .i64 dk, .int .i64 dn, .string DS, .slice I7 L7 q7, .slice A1 N c1] 28)) := (Below.refl _ w).alloc (Nat.le_refl _) _
  have hkt' : 0 < N → 32 :: TK = TF := hkt.out
  have hN0 : Hid (0 < N) := Lib.hid (hks.out (by omega))
  have hTFl : TF.length ≤ 6000000 * 5000 + 1 := by
    have h1 := hkt.out hN0.out
    have h2 := htl.out
    rw [← h1, List.length_cons]
    have : 6000000 * TM.sz ks ≤ 6000000 * 5000 := Nat.mul_le_mul_left _ hsz
    omega
  clear hPa hLo htl hll hpl hpl2 hkt hdk hdn hDS hL7 hin hd hks
  have hsl := Lib.hid (fun (T : ByteArray) (hT : T.data.toList = TF) => show 1 ≤ T.size by rw [← size_len, hT, ← hkt' hN0.out]; simp)
  go_enter Tryz.func44, Tryz.ntmps44
  go_wp2_with (
    go_at_call 68
    refine (hKi.out _ hba).mono ?_
    rintro e w7 ⟨⟨T7, rfl, hT7⟩, hb7⟩
    have hT7' := Lib.hid hT7
    have hTs7 : T7.size ≤ 6000000 * 5000 + 1 := (by rw [← size_len, hT7]; exact hTFl)
    have h17 : 1 ≤ T7.size := hsl.out T7 hT7
    clear hT7)
  go_ret
  exact ⟨⟨_, rfl, by first | (simp [hT7'.out, ← hkt' hN0.out]; done) | (rw [ByteArray.data_append, Array.toList_append, ByteArray.data_append, Array.toList_append, ext_drop, hT7'.out, ← hkt' hN0.out]; rfl)⟩, hba.trans (hb7.mono hba.size)⟩
end
theorem rtx_step (k n : Int) (s : List UInt8) (ps : List Int) (d : RM.Dm) (ks : Tl) (hR : ∀ i x, ks.at_ i = some x → TxOk x) : TxOk ⟨k, n, s, ps, d, ks⟩ := by
  by_cases hk : 1 ≤ k ∧ k ≤ 10
  · rcases (show k = 1 ∨ k = 2 ∨ k = 3 ∨ k = 4 ∨ k = 5 ∨ k = 6 ∨ k = 7 ∨ k = 8 ∨ k = 9 ∨ k = 10 by omega) with rfl | rfl | rfl | rfl | rfl | rfl | rfl | rfl | rfl | rfl
    · exact rtx_k1 n s ps d ks hR
    · exact rtx_k2 n s ps d ks hR
    · exact rtx_k3 n s ps d ks hR
    · exact rtx_k4 n s ps d ks hR
    · exact rtx_k5 n s ps d ks hR
    · exact rtx_k6 n s ps d ks hR
    · exact rtx_k7 n s ps d ks hR
    · exact rtx_k8 n s ps d ks hR
    · exact rtx_k9 n s ps d ks hR
    · exact rtx_k10 n s ps d ks hR
  · exact fun w vp vi vk h h1 => absurd h1.lo hk
theorem rtx_any (t : Tm) : TxOk t := Tl.all_one TxOk rtx_step t
end Go.Proofs.YtpiekdcbjkgipaaGreatDoor
