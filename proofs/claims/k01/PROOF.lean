import PyProof.Rows.All
import Wide.All
import OpenK.AllK
import Wide.FinOn
import HandS.ForMost
import HandS.Wide
import HandS.Strs
import HandS.OwnEq
import HandS.More
import HandS.IsInst
import HandS.Walk
import HandS.ForExc
import KE.KExcIs
import HandS.ExcInit
import HandS.ExcIs
import HandS.ExcValue
import HandS.ExcField
import HandS.MakeKwOnly
import HandS.ClsMeth
import PyProof.NeKinds
import HandS.ExcCtx
import PyProof.ReprRoads
import PyProof.ReprLen
import HandS.NoneIn
import PyProof.Rows.ReprOcc
import HandS.HotCalls
import HandS.Comp
import HandS.Iter
import KE.KUnpack
import HandS.TryOnly
import KE.DataFind
import HandS.Head0
import HandS.Head1
import HandS.Head2
import HandS.HeadEnd
import HandS.HeadHook1
import HandS.HeadHook2
import HandS.HeadHook3
import HandS.HeadNt
import HandS.Words
import HandS.WordsExc
import PySem.Challenge.RW_waypairs_k01_fields_and_kinds_made
set_option Elab.async false
set_option linter.all false
set_option maxRecDepth 100000
set_option maxHeartbeats 4000000
namespace Wp
open PySem L2
def top (i : Nat) : Stmt := PySem.Challenge.pw_waypairs_k01_fields_and_kinds_made.main.body.getD i (.Pass ⟨0, 0, 0, 0⟩)
abbrev sPen : Stmt := top 34
abbrev sTake : Stmt := top 35
abbrev sOne : Stmt := top 36
/-! ## The pen: a dict of six names -/
def penD (c : Addr) (a r d m t : Int) : List (Key × V) :=
  [(Sum.inr "cells", .ref c), (Sum.inr "at", .int a), (Sum.inr "rest", .int r), (Sum.inr "digits", .int d), (Sum.inr "mix", .int m), (Sum.inr "turn", .int t)]
theorem kne {x y : Str} (h : ¬ x = y) : ¬ (Sum.inr x : Key) = Sum.inr y := fun z => h (Sum.inr.inj z)
section
variable {c : Addr} {a r d m t z : Int}
theorem pd_cells : valV (penD c a r d m t) (Sum.inr "cells") = some (.ref c) := valV_pos rfl
theorem pd_at : valV (penD c a r d m t) (Sum.inr "at") = some (.int a) := (valV_neg (kne (by decide +kernel))).trans (valV_pos rfl)
theorem pd_rest : valV (penD c a r d m t) (Sum.inr "rest") = some (.int r) :=
  (valV_neg (kne (by decide +kernel))).trans ((valV_neg (kne (by decide +kernel))).trans (valV_pos rfl))
theorem pd_digits : valV (penD c a r d m t) (Sum.inr "digits") = some (.int d) :=
  (valV_neg (kne (by decide +kernel))).trans ((valV_neg (kne (by decide +kernel))).trans ((valV_neg (kne (by decide +kernel))).trans (valV_pos rfl)))
theorem pd_mix : valV (penD c a r d m t) (Sum.inr "mix") = some (.int m) :=
  (valV_neg (kne (by decide +kernel))).trans ((valV_neg (kne (by decide +kernel))).trans ((valV_neg (kne (by decide +kernel))).trans ((valV_neg (kne (by decide +kernel))).trans (valV_pos rfl))))
theorem pd_turn : valV (penD c a r d m t) (Sum.inr "turn") = some (.int t) :=
  (valV_neg (kne (by decide +kernel))).trans ((valV_neg (kne (by decide +kernel))).trans ((valV_neg (kne (by decide +kernel))).trans ((valV_neg (kne (by decide +kernel))).trans ((valV_neg (kne (by decide +kernel))).trans (valV_pos rfl)))))
theorem put_of {kvs : List (Key × V)} {k : Key} {u w : V} (h : valV kvs k = some u) : putK kvs k w = kvs.map fun kv => if kv.1 = k then (kv.1, w) else kv := by
  unfold putK
  rw [if_pos (by rw [valV_any, h]; rfl)]
theorem n1 : ¬ ("cells" : Str) = "at" := by decide +kernel
theorem n2 : ¬ ("cells" : Str) = "rest" := by decide +kernel
theorem n3 : ¬ ("cells" : Str) = "digits" := by decide +kernel
theorem n4 : ¬ ("cells" : Str) = "mix" := by decide +kernel
theorem n5 : ¬ ("cells" : Str) = "turn" := by decide +kernel
theorem n6 : ¬ ("at" : Str) = "rest" := by decide +kernel
theorem n7 : ¬ ("at" : Str) = "digits" := by decide +kernel
theorem n8 : ¬ ("at" : Str) = "mix" := by decide +kernel
theorem n9 : ¬ ("at" : Str) = "turn" := by decide +kernel
theorem n10 : ¬ ("rest" : Str) = "digits" := by decide +kernel
theorem n11 : ¬ ("rest" : Str) = "mix" := by decide +kernel
theorem n12 : ¬ ("rest" : Str) = "turn" := by decide +kernel
theorem n13 : ¬ ("digits" : Str) = "mix" := by decide +kernel
theorem n14 : ¬ ("digits" : Str) = "turn" := by decide +kernel
theorem n15 : ¬ ("mix" : Str) = "turn" := by decide +kernel
theorem pp_at : putK (penD c a r d m t) (Sum.inr "at") (.int z) = penD c z r d m t := by
  rw [put_of pd_at]
  simp [penD, n1, n2, n3, n4, n5, n6, n7, n8, n9, n10, n11, n12, n13, n14, n15, Ne.symm n1, Ne.symm n6, Ne.symm n7, Ne.symm n8, Ne.symm n9]
theorem pp_rest : putK (penD c a r d m t) (Sum.inr "rest") (.int z) = penD c a z d m t := by
  rw [put_of pd_rest]
  simp [penD, n1, n2, n3, n4, n5, n6, n7, n8, n9, n10, n11, n12, n13, n14, n15, Ne.symm n10, Ne.symm n11, Ne.symm n12]
theorem pp_digits : putK (penD c a r d m t) (Sum.inr "digits") (.int z) = penD c a r z m t := by
  rw [put_of pd_digits]
  simp [penD, n1, n2, n3, n4, n5, n6, n7, n8, n9, n10, n11, n12, n13, n14, n15, Ne.symm n13, Ne.symm n14]
theorem pp_mix : putK (penD c a r d m t) (Sum.inr "mix") (.int z) = penD c a r d z t := by
  rw [put_of pd_mix]
  simp [penD, n1, n2, n3, n4, n5, n6, n7, n8, n9, n10, n11, n12, n13, n14, n15, Ne.symm n15]
theorem pp_turn : putK (penD c a r d m t) (Sum.inr "turn") (.int z) = penD c a r d m z := by
  rw [put_of pd_turn]
  simp [penD, n1, n2, n3, n4, n5, n6, n7, n8, n9, n10, n11, n12, n13, n14, n15]
end
/-- the pen at p: its cells at c hold ns; at is a place, mix is small -/
structure PenAt (H : Hp) (p c : Addr) (ns : List Int) (a r d m t : Int) : Prop where
  pd : H p = some (.dK (penD c a r d m t))
  cl : H c = some (.lst (ns.map V.int))
  a0 : 0 ≤ a
  m0 : 0 ≤ m
  m1 : m < 2147483647
theorem PenAt.ne {H : Hp} {p c : Addr} {ns : List Int} {a r d m t : Int} (h : PenAt H p c ns a r d m t) : c ≠ p := ne_of h.cl h.pd (by intro z; cases z)
theorem PenAt.set {H : Hp} {p c : Addr} {ns : List Int} {a r d m t a' r' d' m' t' : Int} (h : PenAt H p c ns a r d m t) (a0 : 0 ≤ a') (m0 : 0 ≤ m') (m1 : m' < 2147483647) :
    PenAt (upd H p (.dK (penD c a' r' d' m' t'))) p c ns a' r' d' m' t' := ⟨upd_same, by rw [upd_ne h.ne]; exact h.cl, a0, m0, m1⟩
/-- take(pen, bound): a number below the bound; the pen alone changes -/
def spTake : Sp := fun vs H Q _ => ∃ (p c : Addr) (ns : List Int) (a r d m t b : Int), vs = [.ref p, .int b] ∧ PenAt H p c ns a r d m t ∧ 0 < b ∧ b < 2 ^ 60 ∧
  ∀ (v a' r' d' m' t' : Int), 0 ≤ v → v < b → 0 ≤ a' → 0 ≤ m' → m' < 2147483647 → Q (.int v) (upd H p (.dK (penD c a' r' d' m' t')))
end Wp
set_option Elab.async false
set_option linter.all false
set_option maxRecDepth 100000
set_option maxHeartbeats 4000000
namespace Wp
open PySem L2
theorem upd_id {H : Hp} {p : Addr} {o : HO} (h : H p = some o) : upd H p o = H := by
  funext b
  by_cases e : b = p
  · rw [e, upd_same, h]
  · rw [upd_ne e]
section
variable {H : Hp} {p c : Addr} {a r d m t z : Int}
theorem gq_cells : DGet (upd H p (.dK (penD c a r d m t))) p (.str "cells") (some (.ref c)) := by
  have q := DGet.k (H := upd H p (.dK (penD c a r d m t))) (a := p) (k := Sum.inr "cells") upd_same
  rw [pd_cells] at q
  exact q
theorem gq_at : DGet (upd H p (.dK (penD c a r d m t))) p (.str "at") (some (.int a)) := by
  have q := DGet.k (H := upd H p (.dK (penD c a r d m t))) (a := p) (k := Sum.inr "at") upd_same
  rw [pd_at] at q
  exact q
theorem gq_rest : DGet (upd H p (.dK (penD c a r d m t))) p (.str "rest") (some (.int r)) := by
  have q := DGet.k (H := upd H p (.dK (penD c a r d m t))) (a := p) (k := Sum.inr "rest") upd_same
  rw [pd_rest] at q
  exact q
theorem gq_digits : DGet (upd H p (.dK (penD c a r d m t))) p (.str "digits") (some (.int d)) := by
  have q := DGet.k (H := upd H p (.dK (penD c a r d m t))) (a := p) (k := Sum.inr "digits") upd_same
  rw [pd_digits] at q
  exact q
theorem gq_mix : DGet (upd H p (.dK (penD c a r d m t))) p (.str "mix") (some (.int m)) := by
  have q := DGet.k (H := upd H p (.dK (penD c a r d m t))) (a := p) (k := Sum.inr "mix") upd_same
  rw [pd_mix] at q
  exact q
theorem gq_turn : DGet (upd H p (.dK (penD c a r d m t))) p (.str "turn") (some (.int t)) := by
  have q := DGet.k (H := upd H p (.dK (penD c a r d m t))) (a := p) (k := Sum.inr "turn") upd_same
  rw [pd_turn] at q
  exact q
theorem pq_of {kvs kvs' : List (Key × V)} {k : Key} {v : V} (e : putK kvs k v = kvs') (hl : kvs.length < sizeLine) : DPut (upd H p (.dK kvs)) p (kV k) v (upd H p (.dK kvs')) := by
  have q := DPut.k (H := upd H p (.dK kvs)) (a := p) (k := k) (v := v) upd_same hl
  rw [upd_upd, e] at q
  exact q
theorem pq_at : DPut (upd H p (.dK (penD c a r d m t))) p (.str "at") (.int z) (upd H p (.dK (penD c z r d m t))) := pq_of (k := Sum.inr "at") pp_at (by show 6 < sizeLine; decide)
theorem pq_rest : DPut (upd H p (.dK (penD c a r d m t))) p (.str "rest") (.int z) (upd H p (.dK (penD c a z d m t))) := pq_of (k := Sum.inr "rest") pp_rest (by show 6 < sizeLine; decide)
theorem pq_digits : DPut (upd H p (.dK (penD c a r d m t))) p (.str "digits") (.int z) (upd H p (.dK (penD c a r z m t))) := pq_of (k := Sum.inr "digits") pp_digits (by show 6 < sizeLine; decide)
theorem pq_mix : DPut (upd H p (.dK (penD c a r d m t))) p (.str "mix") (.int z) (upd H p (.dK (penD c a r d z t))) := pq_of (k := Sum.inr "mix") pp_mix (by show 6 < sizeLine; decide)
theorem pq_turn : DPut (upd H p (.dK (penD c a r d m t))) p (.str "turn") (.int z) (upd H p (.dK (penD c a r d m z))) := pq_of (k := Sum.inr "turn") pp_turn (by show 6 < sizeLine; decide)
end
structure Blt (mg : Str → Option Value) : Prop where
  int : mg "int" = none
  len : mg "len" = none
  list : mg "list" = none
section
variable {P : Program} {w : World} {K : PySem.W.Frag} {mg : Str → Option Value} {base : Heap}
theorem scT : FnScope ["_law_pen_here", "_law_bound", "_law_cell", "_law_mixed", "_law_digit"] ["_law_pen_here", "_law_bound"] (defScope sTake) :=
  ⟨rfl, rfl, rfl, by decide +kernel, rfl, by decide +kernel, by decide +kernel⟩
theorem mod7 {x b : Int} (hb : 0 < b) : 0 ≤ x % b ∧ x % b < b := ⟨Int.emod_nonneg _ (by omega), Int.emod_lt_of_pos _ hb⟩
theorem wb {b : Int} (h0 : 0 < b) (h1 : b < 2 ^ 60) : CDivW 0 b := wide_div (b := 60) h0 (by omega) (by decide) (by decide)
theorem ok_take {f : Addr} {fd : FuncData} (F : Fun K "_law_take" "_law_take" sTake f fd) (T : Blt mg) : FnOk P w K mg base CX0 1 f fd ["_law_pen_here", "_law_bound"] spTake := by
  refine F.ok scT (fun vs H Q E h => ?_) (fun cdv A outer s H vs Q E hr h => ?_)
  · obtain ⟨p, c, ns, a, r, d, m, t, b, rfl, _⟩ := h
    rfl
  · obtain ⟨p, c, ns, a, r, d, m, t, b, rfl, S, hb, hb2, k⟩ := h
    have hu := hu_of hr
    -- the two ends: what is left of a number, and the mixing alone
    obtain ⟨tC, hC, qC⟩ : ∃ t, PSs (cxOf CX0 P w K mg base ["_law_pen_here", "_law_bound", "_law_cell", "_law_mixed", "_law_digit"] "_law_take" (defScope sTake) f cdv A outer s H E).nox ((defBody sTake).drop 2) t ∧
        ∀ (v2 v3 v4 : Option V) (a r d m t' : Int), 0 ≤ a → 0 ≤ m → m < 2147483647 → t { nx := fun _ H' => Q .non H', rt := Q } [some (.ref p), some (.int b), v2, v3, v4] (upd H p (.dK (penD c a r d m t'))) := by
      refine ⟨_, pss_cons (ps_if (pt_cmpR op_gt (pe_dget hu (pv 0) pe_str (fun _ _ => rfl)) pe_int (nomark _))
        (pss_cons (ps_dput hu (pv 0) pe_str (pe_op op_sub (pe_dget hu (pv 0) pe_str (fun _ _ => rfl)) pe_int) rfl)
        (pss_cons (ps_set (i := 4) scT.nd rfl (.inl rfl) (pe_op op_mod (pe_callTy call_int1 (by rfl) T.int PyProof.Rows.boot_int (pa_cons (pe_dget hu (pv 0) pe_str (fun _ _ => rfl)) pa_nil)) (pv 1)))
        (pss_cons (ps_dput hu (pv 0) pe_str (pe_op op_fdivW (pe_dget hu (pv 0) pe_str (fun _ _ => rfl)) (pv 1)) rfl)
        (pss_one (ps_ret (pv 4))))))
        pss_nil)
        (pss_cons (ps_dput hu (pv 0) pe_str (pe_op op_mod (pe_callTy call_int1 (by rfl) T.int PyProof.Rows.boot_int (pa_cons (pe_op op_add (pe_op op_add (pe_op op_mul (pe_dget hu (pv 0) pe_str (fun _ _ => rfl)) pe_int) (pe_op op_mul (pe_dget hu (pv 0) pe_str (fun _ _ => rfl)) pe_int)) pe_int) pa_nil)) pe_int) rfl)
        (pss_one (ps_ret (pe_op op_mod (pe_op op_fdiv (pe_op op_mod (pe_callTy call_int1 (by rfl) T.int PyProof.Rows.boot_int (pa_cons (pe_op op_add (pe_op op_mul (pe_dget hu (pv 0) pe_str (fun _ _ => rfl)) (pe_dget hu (pv 0) pe_str (fun _ _ => rfl))) (pe_dget hu (pv 0) pe_str (fun _ _ => rfl))) pa_nil)) pe_int) pe_int) (pv 1))))), ?_⟩
      intro v2 v3 v4 a r d m t' ha hm hm2
      refine ⟨_, rfl, p, _, rfl, gq_digits, _, _, rfl, rfl, _, rfl, ?_⟩
      refine ite2 (fun _ => ?_) (fun _ => ?_)
      · refine ⟨_, rfl, p, _, rfl, gq_digits, _, _, rfl, rfl, _, rfl, p, _, rfl, pq_digits, ?_⟩
        refine ⟨_, rfl, p, _, rfl, gq_rest, .inl ⟨_, rfl, _, rfl, _, _, rfl, rfl, hb, ?_⟩⟩
        refine ⟨_, rfl, p, _, rfl, gq_rest, _, rfl, _, _, rfl, rfl, wide_div (b := 60) hb (by omega) (by decide) (by decide), _, rfl, p, _, rfl, pq_rest, ?_⟩
        refine ⟨_, rfl, ?_⟩
        exact k _ _ _ _ _ _ (mod7 hb).1 (mod7 hb).2 ha hm hm2
      · refine ⟨_, rfl, p, _, rfl, gq_mix, _, _, rfl, rfl, .inr (by decide), _, rfl, p, _, rfl, gq_turn, _, _, rfl, rfl, .inr (by decide), _, _, rfl, rfl, _, _, rfl, rfl, .inl ⟨_, rfl, _, _, rfl, rfl, (by show (0 : Int) < 2147483647; decide), _, rfl, p, _, rfl, pq_mix, ?_⟩⟩
        have q1 := mod7 (x := m * 69621 + t' * 16807 + 5) (b := 2147483647) (by decide)
        refine ⟨_, rfl, p, _, rfl, gq_mix, _, rfl, p, _, rfl, gq_mix, _, _, rfl, rfl, .inl ⟨by omega, by omega⟩, _, rfl, p, _, rfl, gq_turn, _, _, rfl, rfl, .inl ⟨_, rfl, _, _, rfl, rfl, (by show (0 : Int) < 2147483579; decide), _, _, rfl, rfl, ⟨by decide, by decide⟩, _, rfl, _, _, rfl, rfl, hb, ?_⟩⟩
        exact k _ _ _ _ _ _ (mod7 hb).1 (mod7 hb).2 ha q1.1 q1.2
    refine ⟨_, pss_cons (ps_dput hu (pv 0) pe_str (pe_op op_add (pe_dget hu (pv 0) pe_str (fun _ _ => rfl)) pe_int) rfl)
      (pss_cons (ps_if (PW.pt (pw_and (pt_cmpR op_eq (pe_dget hu (pv 0) pe_str (fun _ _ => rfl)) pe_int (nomark _))
          (pw_and1 (pt_cmpR op_lt (pe_dget hu (pv 0) pe_str (fun _ _ => rfl)) (pe_callB call_len_seq (by rfl) T.len PySem.boot_len (pa_cons (pe_dget hu (pv 0) pe_str (fun _ _ => rfl)) pa_nil)) (nomark _)))))
        (pss_cons (ps_set (i := 2) scT.nd rfl (.inl rfl) (pe_ix ix_list (pe_dget hu (pv 0) pe_str (fun _ _ => rfl)) (pe_dget hu (pv 0) pe_str (fun _ _ => rfl)) (fun _ _ => rfl)))
        (pss_cons (ps_dput hu (pv 0) pe_str (pe_op op_add (pe_dget hu (pv 0) pe_str (fun _ _ => rfl)) pe_int) rfl)
        (pss_cons (ps_if (pt_cmpR op_lt (pv 2) (pe_op op_pow pe_int pe_int) (nomark _))
          (pss_cons (ps_set (i := 3) scT.nd rfl (.inl rfl) (pe_op op_mod (pe_callTy call_int1 (by rfl) T.int PyProof.Rows.boot_int (pa_cons (pe_op op_add (pe_op op_add (pe_op op_mul (pe_op op_mod (pe_callTy call_int1 (by rfl) T.int PyProof.Rows.boot_int (pa_cons (pv 2) pa_nil)) pe_int) pe_int) (pe_dget hu (pv 0) pe_str (fun _ _ => rfl))) (pe_op op_mul (pe_dget hu (pv 0) pe_str (fun _ _ => rfl)) pe_int)) pa_nil)) pe_int))
          (pss_cons (ps_dput hu (pv 0) pe_str (pe_op op_mod (pe_callTy call_int1 (by rfl) T.int PyProof.Rows.boot_int (pa_cons (pe_op op_add (pe_op op_add (pe_op op_mul (pe_dget hu (pv 0) pe_str (fun _ _ => rfl)) pe_int) (pv 3)) pe_int) pa_nil)) pe_int) rfl)
          (pss_one (ps_ret (pe_op op_mod (pe_op op_fdiv (pe_op op_mod (pe_callTy call_int1 (by rfl) T.int PyProof.Rows.boot_int (pa_cons (pe_op op_add (pe_op op_mul (pv 3) (pv 3)) (pe_dget hu (pv 0) pe_str (fun _ _ => rfl))) pa_nil)) pe_int) pe_int) (pv 1))))))
          pss_nil)
        (pss_cons (ps_dput hu (pv 0) pe_str (pe_op op_sub (pv 2) (pe_op op_pow pe_int pe_int)) rfl)
        (pss_one (ps_dput hu (pv 0) pe_str pe_int rfl))))))
        pss_nil)
      hC), ?_⟩
    have hc2 : ∀ {a r d m t : Int}, upd H p (.dK (penD c a r d m t)) c = some (.lst (ns.map V.int)) := by
      intro a r d m t
      rw [upd_ne S.ne]
      exact S.cl
    have e0 : H = upd H p (.dK (penD c a r d m t)) := (upd_id S.pd).symm
    rw [e0]
    refine ⟨_, rfl, p, _, rfl, gq_turn, _, _, rfl, rfl, _, rfl, p, _, rfl, pq_turn, ?_⟩
    refine ⟨_, rfl, p, _, rfl, gq_digits, rfl, _, rfl, ?_⟩
    refine ite2 (fun _ => ?_) (fun _ => ?_)
    · refine ⟨_, rfl, p, _, rfl, gq_at, _, rfl, p, _, rfl, gq_cells, c, _, rfl, .inl (SqL.of hc2), _, _, rfl, rfl, _, rfl, ?_⟩
      refine ite2 (fun hlt => ?_) (fun _ => ?_)
      · have hlt := of_decide_eq_true hlt
        rw [List.length_map] at hlt
        obtain ⟨j, rfl⟩ := Int.eq_ofNat_of_zero_le S.a0
        have hj : j < ns.length := by omega
        have hx : (ns.map V.int)[j]? = some (V.int ns[j]) := by
          rw [List.getElem?_map, List.getElem?_eq_getElem hj]
          rfl
        refine ⟨_, rfl, p, _, rfl, gq_cells, _, rfl, p, _, rfl, gq_at, c, _, _, _, rfl, rfl, SqL.of hc2, atI_nat hx, ?_⟩
        refine ⟨_, rfl, p, _, rfl, gq_at, _, _, rfl, rfl, _, rfl, p, _, rfl, pq_at, ?_⟩
        refine ⟨_, rfl, _, _, rfl, rfl, ⟨by decide, by decide, by decide⟩, _, _, rfl, rfl, _, rfl, ?_⟩
        have a1 : (0 : Int) ≤ (j : Int) + 1 := by omega
        refine ite2 (fun _ => ?_) (fun _ => ?_)
        · refine ⟨_, rfl, .inl ⟨_, rfl, _, _, rfl, rfl, (by show (0 : Int) < 2147483587; decide), _, _, rfl, rfl, .inr (by decide), ?_⟩⟩
          refine ⟨_, rfl, p, _, rfl, gq_mix, _, _, rfl, rfl, _, rfl, p, _, rfl, gq_turn, _, _, rfl, rfl, .inr (by decide), _, _, rfl, rfl, .inl ⟨_, rfl, _, _, rfl, rfl, (by show (0 : Int) < 2147483647; decide), ?_⟩⟩
          have q1 := mod7 (x := ns[j] % 2147483587 * 69621 + m + (t + 1) * 40692) (b := 2147483647) (by decide)
          refine ⟨_, rfl, p, _, rfl, gq_mix, _, _, rfl, rfl, .inr (by decide), _, rfl, _, _, rfl, rfl, _, _, rfl, rfl, .inl ⟨_, rfl, _, _, rfl, rfl, (by show (0 : Int) < 2147483587; decide), _, rfl, p, _, rfl, pq_mix, ?_⟩⟩
          have q2 := mod7 (x := m * 16807 + (ns[j] % 2147483587 * 69621 + m + (t + 1) * 40692) % 2147483647 + 13) (b := 2147483587) (by decide)
          refine ⟨_, rfl, _, rfl, _, _, rfl, rfl, .inl ⟨by omega, by omega⟩, _, rfl, p, _, rfl, gq_mix, _, _, rfl, rfl, .inl ⟨_, rfl, _, _, rfl, rfl, (by show (0 : Int) < 2147483563; decide), _, _, rfl, rfl, ⟨by decide, by decide⟩, _, rfl, _, _, rfl, rfl, hb, ?_⟩⟩
          exact k _ _ _ _ _ _ (mod7 hb).1 (mod7 hb).2 a1 q2.1 (by omega)
        · refine ⟨_, rfl, _, _, rfl, rfl, ⟨by decide, by decide, by decide⟩, _, _, rfl, rfl, _, rfl, p, _, rfl, pq_rest, ?_⟩
          refine ⟨_, rfl, p, _, rfl, pq_digits, ?_⟩
          exact qC _ _ _ _ _ _ _ _ a1 S.m0 S.m1
      · exact qC _ _ _ _ _ _ _ _ S.a0 S.m0 S.m1
    · exact qC _ _ _ _ _ _ _ _ S.a0 S.m0 S.m1
end
end Wp
set_option Elab.async false
set_option linter.all false
set_option maxRecDepth 100000
set_option maxHeartbeats 4000000
namespace Wp
open PySem L2
/-! ## one of a menu; the pen made; a plain value -/
theorem SqL.over {K : PySem.W.Frag} {H : Hp} {p q : Addr} {xs : List V} {kvs kvs' : List (Key × V)} (h : SqL K H q xs) (hp : H p = some (.dK kvs)) : SqL K (upd H p (.dK kvs')) q xs := by
  have key : ∀ o, H q = some o → (∀ l, o ≠ .dK l) → upd H p (.dK kvs') q = some o := fun o e n => by
    rw [upd_ne (fun z => by rw [z, hp] at e; exact n kvs (Option.some.inj e).symm)]
    exact e
  rcases h with (h | ⟨o, h⟩) | h
  · exact .inl (.inl (key _ h fun l z => by cases z))
  · exact .inl (.inr ⟨o, key _ h fun l z => by cases z⟩)
  · exact .inr h
def spOne (K : PySem.W.Frag) : Sp := fun vs H Q _ => ∃ (p c q : Addr) (ns : List Int) (a r d m t : Int) (xs : List V), vs = [.ref p, .ref q] ∧ PenAt H p c ns a r d m t ∧ SqL K H q xs ∧ 0 < xs.length ∧ xs.length ≤ 1000 ∧
  ∀ (x : V) (a' r' d' m' t' : Int), x ∈ xs → 0 ≤ a' → 0 ≤ m' → m' < 2147483647 → Q x (upd H p (.dK (penD c a' r' d' m' t')))
section
variable {P : Program} {w : World} {K : PySem.W.Frag} {mg : Str → Option Value} {base : Heap}
theorem scO : FnScope ["_law_pen_here", "_law_menu"] ["_law_pen_here", "_law_menu"] (defScope sOne) := ⟨rfl, rfl, rfl, by decide +kernel, rfl, by decide +kernel, by decide +kernel⟩
theorem ok_one {f fT : Addr} {fd fdT : FuncData} (F : Fun K "_law_one_of" "_law_one_of" sOne f fd) (T : Blt mg) (GT : FnOk P w K mg base CX0 1 fT fdT ["_law_pen_here", "_law_bound"] spTake) (bT : Binds K fdT ["_law_pen_here", "_law_bound"] [])
    (mT : mg "_law_take" = some (.ref fT)) (kT : PySem.W.keepIn K (.ref fT) = true) : FnOk P w K mg base CX0 2 f fd ["_law_pen_here", "_law_menu"] (spOne K) := by
  refine F.ok scO (fun vs H Q E h => ?_) (fun cdv A outer s H vs Q E hr h => ?_)
  · obtain ⟨p, c, q, ns, a, r, d, m, t, xs, rfl, _⟩ := h
    rfl
  · obtain ⟨p, c, q, ns, a, r, d, m, t, xs, rfl, S, hq, h0, h1, k⟩ := h
    refine ⟨_, pss_one (ps_ret (pe_ix ix_list (pv 1) (pe_call GT (hr.mono (by decide)) rfl mT kT bT .nil pass0 (pa_cons (pv 0) (pa_cons (pe_callB call_len_seq (by rfl) T.len PySem.boot_len (pa_cons (pv 1) pa_nil)) pa_nil))) (fun _ _ => rfl))), ?_⟩
    refine ⟨_, rfl, _, rfl, _, rfl, q, _, rfl, .inl hq, p, c, ns, a, r, d, m, t, (xs.length : Int), rfl, S, by omega, by omega, fun v a' r' d' m' t' v0 v1 ha hm hm2 => ?_⟩
    obtain ⟨j, rfl⟩ := Int.eq_ofNat_of_zero_le v0
    have hj : j < xs.length := by omega
    have hx : xs[j]? = some xs[j] := List.getElem?_eq_getElem hj
    exact ⟨q, _, _, _, rfl, rfl, SqL.over hq S.pd, atI_nat hx, k _ _ _ _ _ _ (List.getElem_mem hj) ha hm hm2⟩
def spPen (K : PySem.W.Frag) : Sp := fun vs H Q _ => ∃ (s : Addr) (ns : List Int), vs = [.ref s] ∧ SqL K H s (ns.map V.int) ∧ ns.length ≤ 63 ∧
  ∀ (p c : Addr) (H' : Hp) (m : Int), Same H H' → H p = none → H c = none → PenAt H' p c ns 0 0 0 m 0 → Q (.ref p) H'
theorem scP : FnScope ["_law_script", "_law_total", "_law_cell"] ["_law_script"] (defScope sPen) := ⟨rfl, rfl, rfl, by decide +kernel, rfl, by decide +kernel, by decide +kernel⟩
theorem pen_made {c : Addr} {m : Int} : mergeK [] ([(Sum.inr "cells", .ref c), (Sum.inr "at", .int 0), (Sum.inr "rest", .int 0), (Sum.inr "digits", .int 0), (Sum.inr "mix", .int m), (Sum.inr "turn", .int 0)] : List (Key × V)) = penD c 0 0 0 m 0 := by
  simp [mergeK, putK, penD, n1, n2, n3, n4, n5, n6, n7, n8, n9, n10, n11, n12, n13, n14, n15]
theorem ok_pen {f : Addr} {fd : FuncData} (F : Fun K "_law_pen" "_law_pen" sPen f fd) (T : Blt mg) : FnOk P w K mg base CX0 1 f fd ["_law_script"] (spPen K) := by
  refine F.ok scP (fun vs H Q E h => ?_) (fun cdv A outer s H vs Q E hr h => ?_)
  · obtain ⟨a, ns, rfl, _⟩ := h
    rfl
  · obtain ⟨a, ns, rfl, hS, hl, k⟩ := h
    refine ⟨_, pss_cons (ps_set (i := 1) scP.nd rfl (.inl rfl) pe_int)
      (pss_cons (ps_for PassesOwn.never rfl (pi_list (pv 0)) (pg_name (i := 2) scP.nd rfl (.inl rfl))
        (pss_one (ps_set (i := 1) scP.nd rfl (.inl rfl) (pe_op op_mod (pe_callTy call_int1 (by rfl) T.int PyProof.Rows.boot_int (pa_cons (pe_op op_add (pe_op op_mul (pv 1) pe_int) (pv 2)) pa_nil)) pe_int))))
      (pss_one (ps_ret (pe_disp (pps_cons pe_str (pe_callTy call_list_of (by rfl) T.list PyProof.Rows.boot_list (pa_cons (pv 0) pa_nil)) (pps_cons pe_str pe_int (pps_cons pe_str pe_int (pps_cons pe_str pe_int (pps_cons pe_str (pv 1) (pps_cons pe_str pe_int pps_nil)))))) rfl rfl (by simp) (by decide))))), ?_⟩
    refine ⟨_, rfl, a, rfl, ⟨_, hS⟩, for_list (K := K) (a := a) (xs := ns.map V.int) (fun i σ H2 => H2 = H ∧ ∃ (z : Int) (v : Option V), σ = [some (.ref a), some (.int z), v] ∧ 0 ≤ z ∧ z < 2147483647)
      ⟨rfl, 29, none, rfl, by decide, by decide⟩ (fun i σ H2 _ ⟨e, _⟩ => by rw [e]; exact hS) ?_ ?_⟩
    · rintro i y σ H2 hi ⟨rfl, z, v, rfl, z0, z1⟩
      obtain ⟨x, hx, rfl⟩ : ∃ x, ns[i]? = some x ∧ y = V.int x := by
        rw [List.getElem?_map] at hi
        cases e : ns[i]? with
        | none =>
          rw [e] at hi
          cases hi
        | some x =>
          rw [e] at hi
          exact ⟨x, rfl, (Option.some.inj hi).symm⟩
      refine ⟨_, rfl, _, _, rfl, rfl, .inr (by decide), _, rfl, _, _, rfl, rfl, .inl ⟨_, rfl, _, _, rfl, rfl, (by show (0 : Int) < 2147483587; decide), ?_⟩⟩
      have q := mod7 (x := z * 48271 + x) (b := 2147483587) (by decide)
      exact ⟨rfl, _, _, rfl, q.1, by omega⟩
    · rintro σ H2 ⟨rfl, z, v, rfl, z0, z1⟩
      intro p hp
      have hSp : SqL K (upd H2 p (.dK [])) a (ns.map V.int) := (show Same H2 (upd H2 p (.dK [])) from fun b o e => by rw [upd_ne (ne_of_none e hp)]; exact e).seq hS
      refine ⟨_, rfl, a, _, rfl, .inl hSp, fun l hl' => ?_⟩
      have hlp : l ≠ p := fun e => by rw [e, upd_same] at hl'; cases hl'
      have hlH : H2 l = none := by rw [upd_ne hlp] at hl'; exact hl'
      refine ⟨_, rfl, by rw [upd_ne (Ne.symm hlp)]; exact upd_same, [(Sum.inr "cells", .ref l), (Sum.inr "at", .int 0), (Sum.inr "rest", .int 0), (Sum.inr "digits", .int 0), (Sum.inr "mix", .int z), (Sum.inr "turn", .int 0)], rfl, (by show 6 ≤ 15; decide), ?_⟩
      rw [pen_made]
      refine k p l _ _ (fun b o e => ?_) hp hlH ⟨upd_same, ?_, by decide, z0, z1⟩
      · rw [upd_ne (ne_of_none e hp), upd_ne (ne_of_none e hlH), upd_ne (ne_of_none e hp)]
        exact e
      · rw [upd_ne hlp]
        exact upd_same
end
end Wp
set_option Elab.async false
set_option linter.all false
set_option maxRecDepth 100000
set_option maxHeartbeats 4000000
/-! A set made of any number of texts: how many there are. -/
namespace Wp.TS
open PySem PySem.Spec PyProof.Rows
/-- one text more -/
def one (σ : List Str) (x : Str) : List Str := if x ∈ σ then σ else σ ++ [x]
/-- each text once -/
def once (xs : List Str) : List Str := xs.foldl one []
theorem once_snoc (xs : List Str) (x : Str) : once (xs ++ [x]) = one (once xs) x := by simp [once, List.foldl_append]
theorem one_mem {σ : List Str} {x y : Str} : y ∈ one σ x ↔ y ∈ σ ∨ y = x := by
  unfold one
  split
  · next h => exact ⟨.inl, fun z => z.elim id fun e => e ▸ h⟩
  · simp
theorem once_from (xs : List Str) : ∀ σ, (xs.foldl one σ).length ≤ σ.length + xs.length := by
  induction xs with
  | nil => intro σ; simp
  | cons x xs ih =>
    intro σ
    have a := ih (one σ x)
    have b : (one σ x).length ≤ σ.length + 1 := by unfold one; split <;> simp
    simp only [List.foldl_cons, List.length_cons]
    omega
theorem once_le (xs : List Str) : (once xs).length ≤ xs.length := by
  have := once_from xs []
  simpa [once] using this
theorem once_mem (xs : List Str) (y : Str) : y ∈ once xs ↔ y ∈ xs := by
  have key : ∀ (xs σ : List Str), y ∈ xs.foldl one σ ↔ y ∈ σ ∨ y ∈ xs := by
    intro xs
    induction xs with
    | nil => intro σ; simp
    | cons x xs ih =>
      intro σ
      rw [List.foldl_cons, ih, one_mem, List.mem_cons, or_assoc]
  have := key xs []
  simpa [once] using this
/-- as many as before, exactly if no text stands twice -/
theorem once_len (xs : List Str) : (once xs).length = xs.length ↔ xs.Nodup := by
  have key : ∀ (xs σ : List Str), σ.Nodup → ((xs.foldl one σ).length = σ.length + xs.length ↔ (σ ++ xs).Nodup) := by
    intro xs
    induction xs with
    | nil => intro σ h; simp [h]
    | cons x xs ih =>
      intro σ h
      rw [List.foldl_cons]
      by_cases e : x ∈ σ
      · have o : one σ x = σ := if_pos e
        rw [o]
        have b := once_from xs σ
        constructor
        · intro q
          simp only [List.length_cons] at q
          omega
        · intro q
          rw [List.nodup_append] at q
          exact absurd rfl (q.2.2 x e x List.mem_cons_self)
      · have o : one σ x = σ ++ [x] := if_neg e
        rw [o]
        have n : (σ ++ [x]).Nodup := by
          rw [List.nodup_append]
          refine ⟨h, by simp, fun a ha b hb z => ?_⟩
          rw [List.mem_singleton] at hb
          exact e (hb ▸ z ▸ ha)
        have q := ih (σ ++ [x]) n
        rw [List.append_assoc] at q
        simp only [List.length_append, List.length_cons, List.length_nil] at q ⊢
        rw [← List.singleton_append (l := xs)]
        rw [← q]
        omega
  have := key xs [] List.nodup_nil
  simpa [once] using this
section
variable {prog : Program} {w : World} {A : Around} {R : Result → Shared → Prop} {I S : Addr} {fp wr : List Addr} {G : Array GenState → Array GenState → Prop} {n : Nat} {P : Nat → Value → Prop} {St : Nat → Shared → Prop}
/-- the set at S holds these texts, each once -/
abbrev Holds (prog : Program) (w : World) (h : Heap) (S : Addr) (xs : List Str) : Prop := h.SetOf (PySem.strKind prog w) S (fun y => decide (y ∈ once xs)) (once xs).length
theorem Holds.at {h h' : Heap} {xs : List Str} (q : Holds prog w h S xs) (k : ∀ o, h.get? S = some o → h'.get? S = some o) : Holds prog w h' S xs := by
  obtain ⟨o, es, ep, t, ho, q⟩ := q
  exact ⟨o, es, ep, t, k o ho, q⟩
theorem upd_loop (W : WalksS prog w A.in1 I fp wr G n P St) (off : S ∉ fp) (xs : List Str) (few : xs.length + 1 < scanBound) (len : xs.length = n) (txt : ∀ i v, P i v → ∃ x t, xs[i]? = some x ∧ v = .str x t) :
    ∀ (m i : Nat) (s : Shared), i + m = n → St i s → Holds prog w s.heap S (xs.take i) →
      (∀ s', Moved (S :: wr) G s s' → Holds prog w s'.heap S xs → R (.ok (.ret .none)) s') → codeAny (model prog w) A (.builtin "set.update.loop" ⟨[.ref S, .ref I], []⟩) R s
  | 0, i, s, hm, st, hS, end_ => by
    obtain rfl : i = n := hm
    have out : S ∉ wr := fun z => off (W.sub _ z)
    apply codeAny_builtin F.entry_set_update_loop
    rw [Around.under_plainId F.plain_set_update_loop]
    apply wpAny_bind (m := pyNext (.ref I))
    refine W.done s _ _ st fun s' mv => ?_
    have q := hS.at fun o e => mv.heap S o out e
    rw [List.take_of_length_le (Nat.le_of_eq len)] at q
    exact wpAny_pure (end_ s' (mv.mono fun b hb => .tail _ hb) q)
  | m + 1, i, s, hm, st, hS, end_ => by
    have out : S ∉ wr := fun z => off (W.sub _ z)
    apply codeAny_builtin F.entry_set_update_loop
    rw [Around.under_plainId F.plain_set_update_loop]
    apply wpAny_bind (m := pyNext (.ref I))
    refine W.item i s _ _ (by omega) st fun v s' pv st' mv => ?_
    obtain ⟨x, t, hx, rfl⟩ := txt i v pv
    have at_ := hS.at fun o e => mv.heap S o out e
    have tk : xs.take (i + 1) = xs.take i ++ [x] := by rw [List.take_add_one, hx]; rfl
    have lt : (once (xs.take i)).length + 1 < scanBound := by
      have a := once_le (xs.take i)
      have b : (xs.take i).length ≤ xs.length := List.length_take_le' _ _
      omega
    apply wpAny_bind (m := holding [Value.str x t] (setAdd S (.str x t)))
    apply wpAny_holding
    unfold setAdd
    apply wpAny_holding
    apply wpAny_bind
    apply (PySem.strKind prog w).pyHash (k := x) (strKind_is _ _ _ _)
    refine wpAny_setAddHashed_of (knd := PySem.strKind prog w) (k := x) (s := { s' with toks := s'.toks + 1 }) (strKind_is _ _ _ _) rfl at_ lt fun h2 but set2 => ?_
    have next : Holds prog w h2 S (xs.take (i + 1)) := by
      unfold Holds
      rw [tk, once_snoc]
      refine SetOf_congr set2 (fun y => ?_) ?_
      · rw [Bool.eq_iff_iff]
        simp only [Bool.or_eq_true, decide_eq_true_eq]
        exact one_mem.symm
      · unfold one
        by_cases e : x ∈ once (xs.take i) <;> simp [e]
    refine wpAny_pure ⟨plainId_quiet F.plain_set_update_loop _, upd_loop W off xs few len txt m (i + 1) _ (by omega) ?_ next fun s3 mv3 q3 => end_ s3 ?_ q3⟩
    · exact W.frame _ s' _ _ st' (Nat.le_succ _) fun b hb o e => (but.2 b fun z => off (z ▸ hb)).trans e
    · exact ((mv.mono fun b hb => List.mem_cons_of_mem S hb).then_heap (Nat.le_succ _) fun b o hb e => (but.2 b fun z => hb (z ▸ List.mem_cons_self)).trans e).trans W.gtrans mv3
end
end Wp.TS
set_option Elab.async false
set_option linter.all false
set_option maxRecDepth 100000
set_option maxHeartbeats 4000000
namespace Wp.TS
open PySem PySem.Spec PyProof.Rows
/-- a list or tuple of texts, as the object at l -/
structure Row (h : Heap) (ty : String) (l : Addr) (us : Array Value) : Prop where
  kind : ty = "list" ∨ ty = "tuple"
  obj : ∃ o n, h.get? l = some o ∧ o.cls = .type ty ∧ o.data = .seq us n
section
variable {prog : Program} {w : World} {A : Around} {E : Value → Shared → Prop} {s : Shared}
def setObj (led : Bool) : Obj := { cls := .type "set", dict := none, data := .set #[] 0 (.fresh 0 0 led) }
theorem Row.push {h : Heap} {ty : String} {l : Addr} {us : Array Value} (r : Row h ty l us) (o : Obj) : Row (h.push o) ty l us := by
  obtain ⟨k, u, n, a, b, c⟩ := r
  exact ⟨k, u, n, Heap.get?_push_of_some _ a, b, c⟩
theorem Row.lt {h : Heap} {ty : String} {l : Addr} {us : Array Value} (r : Row h ty l us) : l < h.objs.size := by
  obtain ⟨k, u, n, a, b, c⟩ := r
  exact Heap.lt_size a
/-- what its iterator does -/
theorem Row.iter {B : Around} {ty : String} {l : Addr} {us : Array Value} (r : Row s.heap ty l us) (hh : B.handled = none) {Q : Value → Shared → Prop}
    (k : ∀ (it : Obj) (St : Nat → Heap → Prop), St 0 (s.heap.push it) → Walks prog w B s.heap.objs.size [s.heap.objs.size, l] [s.heap.objs.size] us.size (fun i v => us[i]? = some v) St →
      Q (.ref s.heap.objs.size) { s with heap := s.heap.push it }) : wpAny (model prog w) A (pyIter (.ref l)) Q E s := by
  have ne : l ≠ s.heap.objs.size := Nat.ne_of_lt r.lt
  obtain ⟨kd, o, n, a, b, c⟩ := r
  rcases kd with rfl | rfl
  · have q : s.heap.IsList l us := ⟨o, a, b, n, c⟩
    exact wpAny_pyIter_list q (k _ _ ⟨⟨_, Heap.get?_push_size _ rfl, rfl, rfl⟩, q.push _⟩ (Walks.list hh _ l ne us))
  · have q : s.heap.IsTuple l us := ⟨o, a, b, n, c⟩
    exact wpAny_pyIter_tuple q (k _ _ ⟨⟨_, Heap.get?_push_size _ rfl, rfl, rfl⟩, q.push _⟩ (Walks.tuple hh _ l ne us))
/-- the new set, filled -/
theorem set_fill {ty : String} {l S : Addr} {us : Array Value} {xs : List Str} (hh : A.handled = none) (r : Row s.heap ty l us) (ht : StrsAre us.toList xs) (few : xs.length + 1 < scanBound) {led : Bool}
    (ho : s.heap.get? S = some (setObj led)) (ne : S ≠ l) {Q : Value → Shared → Prop}
    (k : ∀ (h' : Heap) (tk : Nat), Holds prog w h' S xs → (∀ b o, b ≠ S → s.heap.get? b = some o → h'.get? b = some o) → Q .none { s with heap := h', toks := tk }) :
    wpAny (model prog w) A (pyIter (.ref l)) (fun it s1 => wpAny (model prog w) A (runValue (.builtin "set.update.loop" ⟨[.ref S, it], []⟩)) (fun _ s2 => Q .none s2) E s1) E s := by
  refine r.iter (B := A.in1) hh fun it St st wk => ?_
  refine wpAny_runValue ?_
  have lt : S < s.heap.objs.size := Heap.lt_size ho
  have off : S ∉ [s.heap.objs.size, l] := by
    simp only [List.mem_cons, List.not_mem_nil, or_false, not_or]
    exact ⟨Nat.ne_of_lt lt, ne⟩
  have sz : xs.length = us.size := by rw [← StrsAre.len_eq ht, Array.length_toList]
  refine upd_loop wk.toS off xs few sz (fun i v e => ?_) us.size 0 _ (Nat.zero_add _) st ?_ ?_
  · have hi : i < us.size := (Array.getElem?_eq_some_iff.mp e).1
    obtain ⟨t, q⟩ := SS.strs_at ht i v (by rw [Array.getElem?_toList]; exact e)
    have hx : i < xs.length := by omega
    exact ⟨xs[i], t, List.getElem?_eq_getElem hx, by rw [q, List.getD_eq_getElem?_getD, List.getElem?_eq_getElem hx]; rfl⟩
  · exact SetOf_congr ((setObjOf_fresh (knd := PySem.strKind prog w) led).setOf (Heap.get?_push_of_some it ho) (by unfold scanBound; omega)) (fun _ => rfl) rfl
  · rintro ⟨h1, g1, d1, t1, o1⟩ mv q
    obtain rfl : g1 = s.gens := mv.gens
    obtain rfl : d1 = s.drawn := mv.drawn
    obtain rfl : o1 = s.os := mv.os
    refine k h1 t1 q fun b o nb e => mv.heap b o ?_ (Heap.get?_push_of_some it e)
    simp only [List.mem_cons, List.not_mem_nil, or_false, not_or]
    exact ⟨nb, Nat.ne_of_lt (Heap.lt_size e)⟩
end
end Wp.TS
set_option Elab.async false
set_option linter.all false
set_option maxRecDepth 100000
set_option maxHeartbeats 4000000
namespace Wp.TS
open PySem PySem.Spec PyProof.Rows
section
variable {prog : Program} {w : World} {A : Around} {E : Value → Shared → Prop} {s : Shared}
theorem no_set {ty : String} (k : ty = "list" ∨ ty = "tuple") : isSubtype (.type ty) (.type "set") = pure false := by
  rcases k with rfl | rfl
  · exact PySem.F.sub_list_set
  · exact PySem.F.sub_tuple_set
theorem no_frozen {ty : String} (k : ty = "list" ∨ ty = "tuple") : isSubtype (.type ty) (.type "frozenset") = pure false := by
  rcases k with rfl | rfl
  · exact PySem.F.sub_list_frozenset
  · exact PySem.F.sub_tuple_frozenset
theorem no_dict {ty : String} (k : ty = "list" ∨ ty = "tuple") : (Value.type ty == Value.type "dict") = false := by
  rcases k with rfl | rfl <;> decide
theorem set_init {ty : String} {l S : Addr} {us : Array Value} {xs : List Str} (hh : A.handled = none) (r : Row s.heap ty l us) (ht : StrsAre us.toList xs) (few : xs.length + 1 < scanBound) {led : Bool}
    (ho : s.heap.get? S = some (setObj led)) (ne : S ≠ l) {Q : Value → Shared → Prop}
    (k : ∀ (h' : Heap) (tk : Nat), Holds prog w h' S xs → (∀ b o, b ≠ S → s.heap.get? b = some o → h'.get? b = some o) → Q .none { s with heap := h', toks := tk }) :
    wpAny (model prog w) A (Builtin.«set.__init__» ⟨[.ref S, .ref l], []⟩) (fun f s' => ∃ v, f = .done (.ret v) ∧ Q v s') E s := by
  have n1 := no_set r.kind
  have n2 := no_frozen r.kind
  have n3 := no_dict r.kind
  have hT : Shared.TypeIs s (.ref S) "set" := ⟨_, ho, rfl⟩
  obtain ⟨o, n, hl, cl, dt⟩ := r.obj
  obtain ⟨c, dd, da, sl⟩ := o
  simp only at cl dt
  subst cl
  subst dt
  have fill := set_fill (E := E) hh r ht few ho ne k
  unfold setObj at ho
  unfold Builtin.«set.__init__» noKeywords Builtin.Frozenset.updateFrom
  generalize hp : pyIter = PI at fill ⊢
  wp_walk
  refine wpAny_mono fill (fun it s1 q => ?_) fun _ _ e => e
  refine wpAny_bind (wpAny_mono q (fun _ s2 q2 => ?_) fun _ _ e => e)
  exact wpAny_pure (wpAny_pure ⟨_, rfl, q2⟩)
/-- set(xs), xs a list or tuple of texts -/
theorem set_call {ty : String} {l : Addr} {us : Array Value} {xs : List Str} (hh : A.handled = none) (r : Row s.heap ty l us) (ht : StrsAre us.toList xs) (few : xs.length + 1 < scanBound) {Q : Value → Shared → Prop}
    (k : ∀ (h' : Heap) (tk : Nat), Holds prog w h' s.heap.objs.size xs → (∀ b o, s.heap.get? b = some o → h'.get? b = some o) → Q (.ref s.heap.objs.size) { s with heap := h', toks := tk }) :
    wpAny (model prog w) A (call (.type "set") [.ref l]) Q E s := by
  have C := PySem.F.called_set
  obtain ⟨c, tl, c1⟩ := C.mro
  have c2 := C.made
  have c3 := C.sub
  have c4 := C.notType
  have c5 := C.canCreate
  have c6 := PySem.F.typeCall_set_1 (.ref l)
  have c7 := C.init.lookup
  apply wpAny_call
  apply codeAny_of_tree
  show wpAny _ _ (callAny (.type "set") _) _ _ _
  refine wpAny_pure ⟨Code.quiet_builtin _ (by decide +kernel), ?_⟩
  apply codeAny_builtin PySem.F.entry_type_call
  rw [Around.under_plain (weight_type_call_type "set" [.ref l] []) rfl]
  repeat (any_goals (first | assumption | wp_step))
  refine codeAny_mono (code_set_new_1 (.ref l) (Q₁ := fun v s1 => ∃ led, v = .ref s.heap.objs.size ∧ s1 = { s with heap := s.heap.push (setObj led) }) (E := E) fun led => ⟨led, rfl, rfl⟩) fun res s1 got => ?_
  rcases res with e | (_ | _ | _ | v) <;> first | exact got | exact got.elim | skip
  obtain ⟨led, rfl, rfl⟩ := got
  have ho : (s.heap.push (setObj led)).get? s.heap.objs.size = some (setObj led) := Heap.get?_push_size _ rfl
  have hT : Shared.TypeIs { s with heap := s.heap.push (setObj led) } (.ref s.heap.objs.size) "set" := ⟨_, ho, rfl⟩
  have c8 := C.init.bind (.ref s.heap.objs.size)
  repeat (any_goals (first | assumption | wp_step))
  refine codeAny_mono (codeAny_call_builtin (R := wants (fun v s2 => v = .none ∧ ∃ h' tk, s2 = { s with heap := h', toks := tk } ∧ Holds prog w h' s.heap.objs.size xs ∧ ∀ b o, s.heap.get? b = some o → h'.get? b = some o) E)
    C.init.plain PySem.F.entry_set_init (check_set_init_1 hT ?_)) fun res s2 got => ?_
  · refine wpAny_mono (set_init (s := { s with heap := s.heap.push (setObj led) }) (E := E) (Q := fun v s2 => v = .none ∧ ∃ h' tk, s2 = { s with heap := h', toks := tk } ∧ Holds prog w h' s.heap.objs.size xs ∧ ∀ b o, s.heap.get? b = some o → h'.get? b = some o)
      (by simp [hh]) (r.push _) ht few ho (Nat.ne_of_gt r.lt) fun h' tk q old => ⟨rfl, h', tk, rfl, q, fun b o e => old b o (Nat.ne_of_lt (Heap.lt_size e)) (Heap.get?_push_of_some _ e)⟩) (fun f s2 ⟨v, e, q⟩ => ?_) fun _ _ e => e
    rw [e]
    exact q
  · rcases res with e | (_ | _ | _ | v) <;> first | exact got | exact got.elim | skip
    obtain ⟨rfl, h', tk, rfl, q, old⟩ := got
    repeat (any_goals (first | assumption | wp_step))
    exact k h' tk q old
end
end Wp.TS
set_option Elab.async false
set_option linter.all false
set_option maxRecDepth 100000
set_option maxHeartbeats 4000000
namespace Wp
open PySem PySem.Spec PyProof.Rows L2
def tLenTxt (K : PySem.W.Frag) (ta : TE) : TE := fun σ H Q => ta σ H fun x H1 => ∃ (l : Addr) (xs : List Str), x = .ref l ∧ (SqL K H1 l (xs.map V.str) ∨ SqT K H1 l (xs.map V.str)) ∧ xs.length ≤ 4000 ∧ Q (.int ((TS.once xs).length : Nat)) H1
theorem pe_lenTxt {X : Cx} {a : Expr} {ta : TE} {p p2 q pos : Pos} (g1 : Gl X "len") (m1 : X.mg "len" = none) (g2 : Gl X "set") (m2 : X.mg "set" = none) (ha : PE X a ta) (hc : X.calm = true := by rfl)
    (na : starEach [a] X.env = (false, eval a X.env) :: starEach [] X.env := by rfl) : PE X (.Call (.Name "len" p) [.Call (.Name "set" p2) [a] [] q] [] pos) (tLenTxt X.K ta) where
  run := by
    intro pins s σ H Q I h
    apply Call_ (ld_blt I g1 m1 boot_len _)
    apply PyProof.Rows.callWith_builtin1 (PyProof.Rows.args_cons _ rfl) rfl rfl
    apply Call_ (ld_blt I g2 m2 boot_set _)
    refine PyProof.Rows.callWith_type1 (PyProof.Rows.args_cons (thn (ha.run pins s σ H _ I h) ?_) na) na rfl
    rintro v s1 ⟨x, H1, J, rv, l, xs, rfl, sq, few, k⟩
    obtain rfl := rv
    apply PyProof.Rows.args_nil
    have fin : ∀ ty (us : List Value), Vals (xs.map V.str) us → TS.Row s1.heap ty l us.toArray → wpAny (model X.prog X.w) X.A (call (.type "set") [.ref l])
        (fun r s2 => wpAny (model X.prog X.w) X.A (spliced (backTo pos (starEach [] X.env))) (fun vs s3 => wpAny (model X.prog X.w) X.A (call (.builtin "len") (r :: vs)) (EP X pins σ Q) X.xe s3) X.xe s2) X.xe s1 := by
      intro ty us rel row
      refine TS.set_call (J.ok.hd hc) row (by simpa using strsAre_of rel) (by unfold scanBound; omega) fun h' tk holds old => ?_
      apply PyProof.Rows.args_nil
      obtain ⟨o, es, ep, t, o1, o2, o3, _, _, _, o4, o5⟩ := holds
      have few2 : (TS.once xs).length ≤ 4000 := Nat.le_trans (TS.once_le xs) few
      have J2 : Inv X pins σ H1 { s1 with heap := h', toks := tk } := J.kept old
      refine call_len_set o1 o2 o3 o4 (by omega) ⟨.int ((TS.once xs).length : Nat), H1, J2.tok _, ⟨_, by rw [o5]⟩, k⟩
    rcases sq with sq | sq
    · obtain ⟨us, rel, pl, _⟩ := J.list sq
      obtain ⟨o, ho, hc1, n, hd⟩ := pl.isList
      exact fin "list" us rel ⟨.inl rfl, o, n, ho, hc1, hd⟩
    · obtain ⟨us, rel, pl, _⟩ := J.tuple sq
      obtain ⟨o, ho, hc1, n, hd⟩ := pl
      exact fin "tuple" us rel ⟨.inr rfl, o, n, ho, hc1, hd⟩
end Wp
set_option Elab.async false
set_option linter.all false
set_option maxRecDepth 100000
set_option maxHeartbeats 4000000
/-! == and != of a thing whose class has its own ==, with either answer. -/
namespace Wp
open PySem PySem.Spec PyProof.Rows L2
open PySem.W (InstAt Looks findIn isFn mroIn notFirst)
section
variable {prog : Program} {w : World} {A : Around} {E : Value → Shared → Prop} {s : Shared} {K : PySem.W.Frag} {x C L f : Addr} {h₀ : Heap} {m : Str → Option Value} {ox : Obj} {od : Option Obj} {b tb : Value}
/-- the answer turned round -/
def Turned (Q : Value → Shared → Prop) (v : Value) (s : Shared) : Prop := ∃ k, v = .bool k ∧ Q (.bool (!k)) s
theorem bound_blt {id : String} {name : Str} {T : String} {args : List Value} {Q : Option Value → Shared → Prop} (X : K.In s.heap) (I : InstAt s.heap x ox C od) (S : Slot T name id) (hs : findIn K (.ref C) name = some (some (.builtin id)))
    (h : wpAny (model prog w) A (call (.builtin id) (.ref x :: args)) (fun v => Q (some v)) E s) : wpAny (model prog w) A (callSpecialIfBound? (.ref x) name args) Q E s := by
  unfold callSpecialIfBound? bindSpecialIfBound?
  apply wpAny_holding
  apply wpAny_bind
  apply wpAny_bind
  apply wpAny_bind
  apply I.type.here
  apply (PySem.W.looks_findIn X hs).here
  apply wpAny_bind
  refine wpAny_askSetting (wpAny_ite ?_)
  have run : wpAny (model prog w) A (call (.builtin id) ([.ref x] ++ args) >>= fun v => pure (some v)) Q E s := wpAny_bind (wpAny_mono h (fun _ _ q => wpAny_pure q) fun _ _ e => e)
  split
  · exact wpAny_bind (wpAny_of_eq (S.bind _) (wpAny_pure run))
  · exact wpAny_tryCatch (wpAny_bind (wpAny_of_eq (S.bind _) (wpAny_pure run)))
theorem ne_entry {Q : Fin → Shared → Prop} (hu : A.units < cLine) (X : K.In s.heap) (I : InstAt s.heap x ox C od) (he : findIn K (.ref C) "__eq__" = some (some (.ref f))) (hf : isFn K (.ref f) = true)
    (h : wpAny (model prog w) A (call (.ref f) [.ref x, b]) (Turned fun v => Q (.done (.ret v))) E s) : wpAny (model prog w) A (Builtin.«object.__ne__» ⟨[.ref x, b], []⟩) Q E s := by
  unfold Builtin.«object.__ne__»
  have one : wpAny (model prog w) A (callSpecialIfBound? (.ref x) "__eq__" [b]) (fun r s' => ∃ k, r = some (.bool k) ∧ Q (.done (.ret (.bool (!k)))) s') E s :=
    PySem.W.ifBound_K X I he hf (wpAny_mono h (fun v s' ⟨k, e, q⟩ => ⟨k, congrArg some e, q⟩) fun _ _ e => e)
  generalize callSpecialIfBound? = CS at one ⊢
  repeat (first | with_reducible refine wpAny_cRoomFor hu ?_ | with_reducible refine wpAny_mono one (fun r s1 got => ?_) (fun _ _ e => e) | wp_step)
  obtain ⟨k, rfl, q⟩ := got
  exact wpAny_bind (wpAny_truthy_bool (wpAny_pure q))
theorem ne_call {Q : Value → Shared → Prop} (hu : A.in1.units < cLine) (X : K.In s.heap) (I : InstAt s.heap x ox C od) (top : mroIn K C (.type "object") = some true) (he : findIn K (.ref C) "__eq__" = some (some (.ref f))) (hf : isFn K (.ref f) = true)
    (h : wpAny (model prog w) A.in1 (call (.ref f) [.ref x, b]) (Turned Q) E s) : wpAny (model prog w) A (call (.builtin "object.__ne__") [.ref x, b]) Q E s := by
  apply wpAny_call
  apply codeAny_call_builtin F.cmp_object.ne.plain F.cmpEntry_ne
  exact PySem.W.check_slot F.cmpKind_ne F.cmpSplit_ne (I.type.andThen (PySem.W.looks_mroIn X top)) (F.cmpArgs_ne _ _) (ne_entry hu X I he hf h)
theorem ne_own {Q : Value → Shared → Prop} (hu : A.units + 1 < cLine) (X : K.In s.heap) (I : InstAt s.heap x ox C od) (hb : Looks (model prog w) s.heap (typeOf b) tb) (nf : notFirst K C tb = true) (top : mroIn K C (.type "object") = some true)
    (hn : findIn K (.ref C) "__ne__" = some (some (.builtin "object.__ne__"))) (he : findIn K (.ref C) "__eq__" = some (some (.ref f))) (hf : isFn K (.ref f) = true)
    (h : wpAny (model prog w) A.in1 (call (.ref f) [.ref x, b]) (Turned Q) E s) : wpAny (model prog w) A (richCompare .NotEq (.ref x) b) Q E s := by
  have try_ : wpAny (model prog w) A (tryCompare (.ref x) "__ne__" b) (fun r s' => ∃ k, r = some (.bool k) ∧ Q (.bool k) s') E s := by
    unfold tryCompare
    apply wpAny_bind
    refine bound_blt X I F.cmp_object.ne hn (ne_call (show A.units + 1 < cLine from hu) X I top he hf (wpAny_mono h ?_ fun _ _ e => e))
    rintro v s1 ⟨k, rfl, q⟩
    exact ⟨k, rfl, wpAny_pure ⟨_, rfl, q⟩⟩
  unfold richCompare
  simp only [oneThing_ref, cmpInfo_NotEq]
  apply wpAny_holding
  apply wpAny_bind
  apply wpAny_cRoomFor (by omega)
  apply wpAny_bind
  apply I.type.here
  apply wpAny_bind
  apply hb.here
  have rest : ∀ s', s' = s → wpAny (model prog w) A (tryCompare (.ref x) "__ne__" b) (fun r s' => ∃ k, r = some (.bool k) ∧ Q (.bool k) s') E s' := fun s' e => e ▸ try_
  split
  · next ne =>
    have no : PySem.W.subIn K tb (.ref C) = some false := by
      rcases Bool.or_eq_true_iff.mp nf with z | z
      · rw [beq_iff_eq.mp z] at ne
        simp at ne
      · exact beq_iff_eq.mp z
    apply wpAny_bind
    apply (PySem.W.looks_subIn X no).here
    simp only [Bool.false_eq_true, if_false]
    refine wpAny_bind (wpAny_mono try_ ?_ fun _ _ e => e)
    rintro r s1 ⟨k, rfl, q⟩
    exact wpAny_pure q
  · apply wpAny_bind
    apply wpAny_pure
    simp only [Bool.false_eq_true, if_false]
    refine wpAny_bind (wpAny_mono try_ ?_ fun _ _ e => e)
    rintro r s1 ⟨k, rfl, q⟩
    exact wpAny_pure q
end
end Wp
set_option Elab.async false
set_option linter.all false
set_option maxRecDepth 100000
set_option maxHeartbeats 4000000
namespace Wp
open PySem PySem.Spec PyProof.Rows L2
open PySem.W (InstAt Looks findIn isFn mroIn notFirst)
/-- the right side's type is none that goes first -/
inductive Second (K : PySem.W.Frag) (H : Hp) (C : Addr) : V → Prop
  | str (z : Str) : notFirst K C (.type "str") = true → Second K H C (.str z)
  | tup (q : Addr) (ys : List V) : SqT K H q ys → notFirst K C (.type "tuple") = true → Second K H C (.ref q)
  | ins (b D : Addr) (dy : Addr) (gs : List (Str × V)) : H b = some (.ins D dy gs) → notFirst K C (.ref D) = true → Second K H C (.ref b)
section
variable {X : Cx}
theorem Second.type {C : Addr} {y : V} {u : Value} {pins : List (Addr × Obj)} {σ : L2.St} {H : Hp} {s : Shared} (h : Second X.K H C y) (I : Inv X pins σ H s) (r : RelV y u) :
    ∃ tb, Looks (model X.prog X.w) s.heap (typeOf u) tb ∧ notFirst X.K C tb = true := by
  cases h with
  | str z nf =>
    obtain ⟨t, rfl⟩ := r
    exact ⟨_, Looks.of_pure rfl, nf⟩
  | tup q ys sq nf =>
    cases r
    obtain ⟨its, _, ⟨o, ho, hc, _⟩, _⟩ := I.tuple sq
    exact ⟨_, hc ▸ (Looks.ld ho).andThen .now, nf⟩
  | ins b D dy gs hb nf =>
    cases r
    obtain ⟨mA, O, _⟩ := ins_get I.hok hb
    obtain ⟨od, J, _⟩ := O.look
    exact ⟨_, J.type, nf⟩
end
/-- what `x == y` or `x != y` promises: the class's own == answers -/
def rOwn (neg : Bool) (K : PySem.W.Frag) (C : Addr) (sp : Sp) (E : XK) : R2 := fun x y H Q => ∃ (a dx : Addr) (fs : List (Str × V)), x = .ref a ∧ H a = some (.ins C dx fs) ∧ Second K H C y ∧
  sp [x, y] H (fun v H' => ∃ k, v = .bl k ∧ Q (.bl (if neg then !k else k)) H') E
/-- the class's own ==, and what it is called by -/
structure OwnEqual (K : PySem.W.Frag) (C f : Addr) : Prop where
  top : mroIn K C (.type "object") = some true
  ne : findIn K (.ref C) "__ne__" = some (some (.builtin "object.__ne__"))
  eq : findIn K (.ref C) "__eq__" = some (some (.ref f))
  fn : isFn K (.ref f) = true
section
variable {X : Cx} {CX : CXT} {n : Nat} {C f : Addr} {fd : FuncData} {ps : List Str} {sp : Sp} {E : XK}
theorem run_own {A : Around} {pins : List (Addr × Obj)} {σ : L2.St} {H : Hp} {s : Shared} {Q : VK} {us : List Value} {ys : List V} (F : FnOk X.prog X.w X.K X.mg X.base CX n f fd ps sp) (hb : Binds X.K fd ps []) (hx : Passes CX X E)
    (room : Room n A) (fr : A.frames = X.A.frames) (I : Inv X pins σ H s) (r : Vals ys us) (h : sp ys H Q E) : wpAny (model X.prog X.w) A (call (.ref f) us) (EP X pins σ Q) X.xe s := by
  have lenY : ys.length = ps.length := F.len _ _ _ _ h
  have lenU : us.length = ps.length := by rw [← r.length, lenY]
  have b0 := hb s us I.kIn (by simpa using lenU)
  rw [List.append_nil] at b0
  have e0 : Env0 X.prog X.w X.K X.mg X.base A X.stack s H := { I.env0 with frames := fr.trans I.env0.frames }
  apply wpAny_call
  refine codeAny_mono (F.run A X.stack s H ⟨us, []⟩ us ys Q E room e0 b0 r h) ?_
  intro res s2 got
  rcases res with e | (_ | _ | _ | u)
  · exact hx pins σ H s e s2 I got
  · exact got.elim
  · exact got.elim
  · exact got.elim
  · exact I.after got
theorem op_ownEq (F : FnOk X.prog X.w X.K X.mg X.base CX n f fd ps sp) (hb : Binds X.K fd ps []) (hx : Passes CX X E) (O : OwnEqual X.K C f) (room : Room n X.A) : OpR X (compareOp .Eq) (rOwn false X.K C sp E) := by
  rintro pins s σ H x y v u Q I rx ry ⟨a, dx, fs, rfl, ha, sec, p⟩
  obtain ⟨tb, lk, nf⟩ := sec.type I ry
  cases rx
  obtain ⟨mA, J, _⟩ := ins_get I.hok ha
  obtain ⟨od, J, _⟩ := J.look
  obtain ⟨m, fr⟩ := I.fr
  show wpAny _ _ (richCompare .Eq _ _) _ _ _
  refine PySem.W.cmp_K (op := .Eq) room.units0 fr I.ok.mod.kin J lk nf O.eq O.fn ?_
  refine wpAny_mono (run_own F hb hx room rfl I (ys := [.ref a, y]) (.cons (show L2.RelV (.ref a) (.ref a) from rfl) (.cons ry .nil)) p) ?_ fun _ _ e => e
  rintro r s2 ⟨z, σ2, J2, rz, k, rfl, q⟩
  obtain rfl := rz
  exact ⟨.bl k, _, J2, (show L2.RelV (.bl k) (.bool k) from rfl), q⟩
theorem op_ownNe (F : FnOk X.prog X.w X.K X.mg X.base CX n f fd ps sp) (hb : Binds X.K fd ps []) (hx : Passes CX X E) (O : OwnEqual X.K C f) (room : Room (n + 1) X.A) : OpR X (compareOp .NotEq) (rOwn true X.K C sp E) := by
  rintro pins s σ H x y v u Q I rx ry ⟨a, dx, fs, rfl, ha, sec, p⟩
  obtain ⟨tb, lk, nf⟩ := sec.type I ry
  cases rx
  obtain ⟨mA, J, _⟩ := ins_get I.hok ha
  obtain ⟨od, J, _⟩ := J.look
  show wpAny _ _ (richCompare .NotEq _ _) _ _ _
  refine ne_own (f := f) (by have := room.un; omega) I.kIn J lk nf O.top O.ne O.eq O.fn ?_
  refine wpAny_mono (run_own F hb hx room.in1 rfl I (ys := [.ref a, y]) (.cons (show L2.RelV (.ref a) (.ref a) from rfl) (.cons ry .nil)) p) ?_ fun _ _ e => e
  rintro r s2 ⟨z, σ2, J2, rz, k, rfl, q⟩
  obtain rfl := rz
  exact ⟨k, rfl, .bl (!k), _, J2, (show L2.RelV (.bl (!k)) (.bool (!k)) from rfl), q⟩
end
end Wp
set_option Elab.async false
set_option linter.all false
set_option maxRecDepth 100000
set_option maxHeartbeats 4000000
/-! A dict beside a text; tuples that hold the same things. -/
namespace Wp
open PySem PySem.Spec PyProof.Rows L2
open PySem.SeqAt AutoSeq1 MeetsSeq MeetsSeq2 MeetsSeq3 SeqRoads2
section
variable {prog : Program} {w : World} {A : Around} {s : Shared} {d : Addr} {o : Obj}
theorem subSD : isSubtype (.type "str") (.type "dict") = pure false := by rw [isSubtype_type]; kernel_rfl
theorem subDS : isSubtype (.type "dict") (.type "str") = pure false := by rw [isSubtype_type]; kernel_rfl
theorem dict_no {z : Str} {t : Tok} {E : Value → Shared → Prop} {Q : Value → Shared → Prop} (ho : s.heap.get? d = some o) (hc : o.cls = .type "dict") (q : Q .notImplemented s) :
    wpAny (model prog w) A (call (.builtin "dict.__eq__") [.ref d, .str z t]) Q E s := by
  have ty : s.TypeIs (.ref d) "dict" := ⟨o, ho, hc⟩
  refine wpAny_call_entry PySem.F.slot_dict_eq ty PySem.F.entry_dict_eq ?_ (PySem.F.args_dict_eq_2 _ _)
  show wpAny _ _ (Builtin.Dict.dictSlotArgs "__eq__" ⟨[.ref d, .str z t], []⟩ >>= _) _ _ s
  apply wpAny_bind
  unfold Builtin.Dict.dictSlotArgs
  apply wpAny_bind
  apply wpAny_notOrdered_dict ty
  show wpAny _ _ (pure (Value.ref d, Value.str z t)) _ _ s
  apply wpAny_pure
  apply wpAny_bind
  refine wpAny_isInstance (T := "str") (typeIs_str s z t) subSD ?_
  simp only [Bool.not_false, if_true]
  exact wpAny_bind (wpAny_rule (wpAny_pure ⟨_, rfl, q⟩))
theorem str_no {z : Str} {t : Tok} {E : Value → Shared → Prop} {Q : Value → Shared → Prop} {es : Array DictEntry} {ep : Nat} (ho : s.heap.get? d = some o) (hd : o.data = .dict es ep) (q : Q .notImplemented s) :
    wpAny (model prog w) A (call (.builtin "str.__eq__") [.str z t, .ref d]) Q E s := by
  refine wpAny_call_entry PySem.F.slot_str_eq (typeIs_str s z t) PySem.F.entry_str_eq ?_ (PySem.F.args_str_eq_2 _ _)
  obtain ⟨hp, g, dr, tk, os⟩ := s
  wp_walk using wpAny_load ho
  rw [hd]
  wp_walk
  exact ⟨_, rfl, q⟩
theorem rc_dictTxt {es : Array DictEntry} {ep : Nat} (z : Str) (t : Tok) (ho : s.heap.get? d = some o) (hc : o.cls = .type "dict") (hd : o.data = .dict es ep) (hu : A.units < cLine) : RcAt A s (.ref d) (.str z t) false := fun prog w E Q h =>
  rc_eq_decline_or (k := false) ⟨o, ho, hc⟩ (typeIs_str s z t) (by decide) subSD PySem.F.slot_dict_eq PySem.F.slot_str_eq_refl (fun _ q => dict_no ho hc q) (fun _ q => str_no ho hd q) (fun _ q => wpAny_of_eq (rfl : isSame (.ref d) (.str z t) = pure false) q) (.inr hu) h
theorem rc_txtDict {es : Array DictEntry} {ep : Nat} (z : Str) (t : Tok) (ho : s.heap.get? d = some o) (hc : o.cls = .type "dict") (hd : o.data = .dict es ep) (hu : A.units < cLine) : RcAt A s (.str z t) (.ref d) false := fun prog w E Q h =>
  rc_eq_decline_or (k := false) (typeIs_str s z t) ⟨o, ho, hc⟩ (by decide) subDS PySem.F.slot_str_eq PySem.F.slot_dict_eq_refl (fun _ q => str_no ho hd q) (fun _ q => dict_no ho hc q) (fun _ q => wpAny_of_eq (rfl : isSame (.str z t) (.ref d) = pure false) q) (.inr hu) h
theorem eq_txtDict {es : Array DictEntry} {ep : Nat} (z : Str) (t : Tok) (ho : s.heap.get? d = some o) (hc : o.cls = .type "dict") (hd : o.data = .dict es ep) (hu : A.units < cLine) : EqAt A s (.str z t) (.ref d) false := fun prog w E Q h => by
  unfold eqBool
  apply wpAny_holding
  refine wpAny_ite_split (fun e => absurd (eq_of_beq e) nofun) fun _ => ?_
  exact wpAny_bind (rc_txtDict z t ho hc hd hu prog w E _ (wpAny_truthy_bool h))
end
/-- small data, or the empty dict -/
inductive Dq (K : PySem.W.Frag) (H : Hp) : V → PyData → Prop
  | dat {v : V} {d : PyData} : Dp K H v d → SeqAt.shaped d = true → Dq K H v d
  | dct {a : Addr} : H a = some (.dK []) → Dq K H (.ref a) (.dict [])
/-- the data is this text -/
def isTxt : PyData → Str → Bool
  | .str x, z => decide (x = z)
  | _, _ => false
theorem isTxt_iff {d : PyData} {z : Str} : isTxt d z = true ↔ d = .str z := by
  cases d <;> simp [isTxt]
theorem str_beq_decide (x z : Str) : (x == z) = decide (x = z) := by
  by_cases e : x = z
  · simp [e]
  · rw [decide_eq_false e]
    exact beq_eq_false_iff_ne.mpr e
theorem eqv_txt (d : PyData) (z : Str) : PyData.eqv d (.str z) = isTxt d z := by
  cases d <;> simp [PyData.eqv, isTxt, str_beq_decide]
theorem txt_eqv (d : PyData) (z : Str) : PyData.eqv (.str z) d = isTxt d z := by
  cases d with
  | str x =>
    show (z == x) = decide (x = z)
    rw [str_beq_decide]
    by_cases e : x = z
    · simp [e]
    · rw [decide_eq_false e, decide_eq_false fun q => e q.symm]
  | _ => simp [PyData.eqv, isTxt]
section
variable {X : Cx}
/-- x == 'text' -/
def rEqTxt (neg : Bool) (K : PySem.W.Frag) : R2 := fun x y H Q => ∃ (d : PyData) (z : Str), y = .str z ∧ SeqAt.shaped (.str z) = true ∧ Dq K H x d ∧ Q (.bl (if neg then !isTxt d z else isTxt d z)) H
theorem dict_obj {pins : List (Addr × Obj)} {σ : L2.St} {H : Hp} {s : Shared} {a : Addr} (I : Inv X pins σ H s) (h : H a = some (.dK [])) : ∃ o es ep, s.heap.get? a = some o ∧ o.cls = .type "dict" ∧ o.data = .dict es ep ∧ (a == sysModules) = false := by
  obtain ⟨_, no, vs, _, o, es, ep, ho, ex, hd, _⟩ := I.hok a _ h
  exact ⟨o, es, ep, ho, ex.1, hd, no⟩
theorem op_eqTxt (hu : X.A.units + 64 < cLine) : OpR X (compareOp .Eq) (rEqTxt false X.K) := by
  rintro pins s σ H x y v u Q I rx ry ⟨d, z, rfl, hz, q, k⟩
  cases q with
  | dat q sh =>
    refine op_eqD hu pins s σ H x (.str z) v u Q I rx ry ⟨d, .str z, q, .str z, sh, hz, ?_⟩
    rw [eqv_txt]
    exact k
  | dct h =>
    cases rx
    obtain ⟨t, rfl⟩ := ry
    obtain ⟨o, es, ep, ho, hc, hd, _⟩ := dict_obj I h
    show wpAny _ _ (richCompare .Eq _ _) _ _ _
    exact rc_dictTxt z t ho hc hd (by omega) _ _ _ _ ⟨.bl false, H, I, rfl, k⟩
/-- x in a tuple of texts -/
def rInTxt (neg : Bool) (K : PySem.W.Frag) : R2 := fun x y H Q => ∃ (d : PyData) (p : Addr) (zs : List Str), y = .ref p ∧ SqT K H p (zs.map V.str) ∧ (∀ z ∈ zs, SeqAt.shaped (.str z) = true) ∧ Dq K H x d ∧ Q (.bl (if neg then !zs.any (fun z => isTxt d z) else zs.any fun z => isTxt d z)) H
def eTxt (d : PyData) : Value → Bool
  | .str z _ => isTxt d z
  | _ => false
theorem any_txt (d : PyData) : ∀ (zs : List Str) (us : List Value), Vals (zs.map V.str) us → us.any (eTxt d) = zs.any fun z => isTxt d z
  | [], _, .nil => rfl
  | z :: zs, _, .cons r t => by
    obtain ⟨k, rfl⟩ := r
    rw [List.any_cons, List.any_cons, any_txt d zs _ t]
    rfl
theorem in_at {A : Around} {pins : List (Addr × Obj)} {σ : L2.St} {H : Hp} {s : Shared} {x : V} {v : Value} {d : PyData} (I : Inv X pins σ H s) (rx : RelV x v) (q : Dq X.K H x d) (hu : A.units + 64 < cLine) :
    ∀ (zs : List Str) (us : List Value), (∀ z ∈ zs, SeqAt.shaped (.str z) = true) → Vals (zs.map V.str) us → ∀ u ∈ us, EqAt A s u v (eTxt d u)
  | [], _, _, .nil => fun u hu => (by cases hu)
  | z :: zs, _, hz, .cons r t => fun u hm => by
    rcases List.mem_cons.mp hm with rfl | hm
    · obtain ⟨k, rfl⟩ := r
      cases q with
      | dat q sh =>
        obtain ⟨as, rd⟩ := Dp.reads I d x v q rx
        have e := SeqAt.eqAt_reads (.str z) d A s (.str z k) v _ _ (Reads.str z k) rd (SeqAt.canLay_of_shaped (hz z List.mem_cons_self)) (SeqAt.canLay_of_shaped sh) (SeqAt.room_of_shaped (hz z List.mem_cons_self) hu)
        rw [txt_eqv] at e
        exact e
      | dct h =>
        cases rx
        obtain ⟨o, es, ep, ho, hc, hd, _⟩ := dict_obj I h
        exact eq_txtDict z k ho hc hd (by omega)
    · exact in_at I rx q hu zs _ (fun y hy => hz y (List.mem_cons_of_mem _ hy)) t u hm
theorem op_inTxt (hu : X.A.units + 65 < cLine) : OpR X (compareOp .In) (rInTxt false X.K) := by
  rintro pins s σ H x y v u Q I rx ry ⟨d, p, zs, rfl, sq, hz, q, k⟩
  cases ry
  obtain ⟨us, rel, tup, _⟩ := I.tuple sq
  refine SeqAt.in_tupleAt (eTxt d) tup (fun w hw => in_at (A := X.A.in1) I rx q (show X.A.units + 1 + 64 < cLine by omega) zs us hz rel w (by simpa using hw)) ⟨.bl _, H, I, rfl, ?_⟩
  rw [show us.toArray.any (eTxt d) = us.any (eTxt d) by simp, any_txt d zs us rel]
  exact k
theorem op_notInTxt (hu : X.A.units + 65 < cLine) : OpR X (compareOp .NotIn) (rInTxt true X.K) := by
  rintro pins s σ H x y v u Q I rx ry ⟨d, p, zs, rfl, sq, hz, q, k⟩
  cases ry
  obtain ⟨us, rel, tup, _⟩ := I.tuple sq
  refine SeqAt.notIn_tupleAt (eTxt d) tup (fun w hw => in_at (A := X.A.in1) I rx q (show X.A.units + 1 + 64 < cLine by omega) zs us hz rel w (by simpa using hw)) ⟨.bl _, H, I, rfl, ?_⟩
  rw [show us.toArray.any (eTxt d) = us.any (eTxt d) by simp, any_txt d zs us rel]
  exact k
/-- two tuples that hold the same things as far as both reach -/
def rEqSame (K : PySem.W.Frag) : R2 := fun x y H Q => ∃ (a b : Addr) (xs ys : List Addr), x = .ref a ∧ y = .ref b ∧ SqT K H a (xs.map V.ref) ∧ SqT K H b (ys.map V.ref) ∧ (∀ (i : Nat) (h1 : i < xs.length) (h2 : i < ys.length), xs[i] = ys[i]) ∧ Q (.bl (decide (xs.length = ys.length))) H
theorem refs_are : ∀ {xs : List Addr} {us : List Value}, Vals (xs.map V.ref) us → us = xs.map Value.ref
  | [], _, .nil => rfl
  | x :: xs, _, .cons r t => by
    cases r
    rw [refs_are t]
    rfl
theorem op_eqSame (hu : X.A.units < cLine) : OpR X (compareOp .Eq) (rEqSame X.K) := by
  rintro pins s σ H x y v u Q I rx ry ⟨a, b, xs, ys, rfl, rfl, sa, sb, same, k⟩
  cases rx
  cases ry
  obtain ⟨us, r1, t1, _⟩ := I.tuple sa
  obtain ⟨ws, r2, t2, _⟩ := I.tuple sb
  obtain rfl := refs_are r1
  obtain rfl := refs_are r2
  refine SeqAt.eq_tupleAt (e := fun _ => true) t1 t2 hu (fun j h1 h2 => ?_) ⟨.bl _, H, I, rfl, ?_⟩
  · simp at h1 h2
    have e := same j h1 h2
    simp [e]
    exact EqAt.same _
  · have e : (((List.range (min (xs.map Value.ref).toArray.size (ys.map Value.ref).toArray.size)).all fun _ => true) && (xs.map Value.ref).toArray.size == (ys.map Value.ref).toArray.size) = decide (xs.length = ys.length) := by
      by_cases z : xs.length = ys.length <;> simp [z]
    rw [e]
    exact k
end
end Wp
set_option Elab.async false
set_option linter.all false
set_option maxRecDepth 100000
set_option maxHeartbeats 4000000
namespace Wp
open PySem L2
/-! ## data's types -/
def tyN : PyData → String
  | .none => "NoneType"
  | .bool _ => "bool"
  | .int _ => "int"
  | .str _ => "str"
  | .list _ => "list"
  | .tuple _ => "tuple"
  | .dict _ => "dict"
theorem SqL.ty {K : PySem.W.Frag} {H : Hp} {a : Addr} {xs : List V} (h : SqL K H a xs) : TyX K H (.ref a) (.type "list") := by
  rcases h with (h | ⟨o, h⟩) | ⟨o, us, n, h, hc, _⟩
  · exact .base (.lst h)
  · exact .base (.frz h)
  · exact .kList h hc
theorem SqT.ty {K : PySem.W.Frag} {H : Hp} {a : Addr} {xs : List V} (h : SqT K H a xs) : TyX K H (.ref a) (.type "tuple") := by
  rcases h with (h | ⟨o, h⟩) | ⟨o, us, n, h, hc, _⟩
  · exact .base (.tup h)
  · exact .fTuple h
  · exact .kTuple h hc
theorem Dq.ty {K : PySem.W.Frag} {H : Hp} {v : V} {d : PyData} (h : Dq K H v d) : TyX K H v (.type (tyN d)) := by
  cases h with
  | dat q sh =>
    cases q with
    | non => exact .base .non
    | bl b => exact .base (.bl b)
    | int i => exact .base (.int i)
    | str x => exact .base (.str x)
    | lst s _ => exact SqL.ty s
    | tup s _ => exact SqT.ty s
  | dct e => exact .base (.dK e)
def isInt : PyData → Bool
  | .int _ => true
  | _ => false
def isBool : PyData → Bool
  | .bool _ => true
  | _ => false
def isStr : PyData → Bool
  | .str _ => true
  | _ => false
def isLst : PyData → Bool
  | .list _ => true
  | _ => false
def isTup : PyData → Bool
  | .tuple _ => true
  | _ => false
theorem kit_int {K : PySem.W.Frag} (d : PyData) : PySem.W.kitOne K (.type (tyN d)) (.type "int") = some (isInt d || isBool d) := by
  cases d with
  | none => exact kit_ty (a := "NoneType") (b := "int") (r := false) (by decide +kernel)
  | bool b => exact kit_ty (a := "bool") (b := "int") (r := true) (by decide +kernel)
  | int i => exact kit_ty (a := "int") (b := "int") (r := true) (by decide +kernel)
  | str x => exact kit_ty (a := "str") (b := "int") (r := false) (by decide +kernel)
  | list l => exact kit_ty (a := "list") (b := "int") (r := false) (by decide +kernel)
  | tuple l => exact kit_ty (a := "tuple") (b := "int") (r := false) (by decide +kernel)
  | dict l => exact kit_ty (a := "dict") (b := "int") (r := false) (by decide +kernel)
theorem kit_bool {K : PySem.W.Frag} (d : PyData) : PySem.W.kitOne K (.type (tyN d)) (.type "bool") = some (isBool d) := by
  cases d with
  | none => exact kit_ty (a := "NoneType") (b := "bool") (r := false) (by decide +kernel)
  | bool b => exact kit_ty (a := "bool") (b := "bool") (r := true) (by decide +kernel)
  | int i => exact kit_ty (a := "int") (b := "bool") (r := false) (by decide +kernel)
  | str x => exact kit_ty (a := "str") (b := "bool") (r := false) (by decide +kernel)
  | list l => exact kit_ty (a := "list") (b := "bool") (r := false) (by decide +kernel)
  | tuple l => exact kit_ty (a := "tuple") (b := "bool") (r := false) (by decide +kernel)
  | dict l => exact kit_ty (a := "dict") (b := "bool") (r := false) (by decide +kernel)
theorem kit_str {K : PySem.W.Frag} (d : PyData) : PySem.W.kitOne K (.type (tyN d)) (.type "str") = some (isStr d) := by
  cases d with
  | none => exact kit_ty (a := "NoneType") (b := "str") (r := false) (by decide +kernel)
  | bool b => exact kit_ty (a := "bool") (b := "str") (r := false) (by decide +kernel)
  | int i => exact kit_ty (a := "int") (b := "str") (r := false) (by decide +kernel)
  | str x => exact kit_ty (a := "str") (b := "str") (r := true) (by decide +kernel)
  | list l => exact kit_ty (a := "list") (b := "str") (r := false) (by decide +kernel)
  | tuple l => exact kit_ty (a := "tuple") (b := "str") (r := false) (by decide +kernel)
  | dict l => exact kit_ty (a := "dict") (b := "str") (r := false) (by decide +kernel)
theorem kit_list {K : PySem.W.Frag} (d : PyData) : PySem.W.kitOne K (.type (tyN d)) (.type "list") = some (isLst d) := by
  cases d with
  | none => exact kit_ty (a := "NoneType") (b := "list") (r := false) (by decide +kernel)
  | bool b => exact kit_ty (a := "bool") (b := "list") (r := false) (by decide +kernel)
  | int i => exact kit_ty (a := "int") (b := "list") (r := false) (by decide +kernel)
  | str x => exact kit_ty (a := "str") (b := "list") (r := false) (by decide +kernel)
  | list l => exact kit_ty (a := "list") (b := "list") (r := true) (by decide +kernel)
  | tuple l => exact kit_ty (a := "tuple") (b := "list") (r := false) (by decide +kernel)
  | dict l => exact kit_ty (a := "dict") (b := "list") (r := false) (by decide +kernel)
theorem kit_tuple {K : PySem.W.Frag} (d : PyData) : PySem.W.kitOne K (.type (tyN d)) (.type "tuple") = some (isTup d) := by
  cases d with
  | none => exact kit_ty (a := "NoneType") (b := "tuple") (r := false) (by decide +kernel)
  | bool b => exact kit_ty (a := "bool") (b := "tuple") (r := false) (by decide +kernel)
  | int i => exact kit_ty (a := "int") (b := "tuple") (r := false) (by decide +kernel)
  | str x => exact kit_ty (a := "str") (b := "tuple") (r := false) (by decide +kernel)
  | list l => exact kit_ty (a := "list") (b := "tuple") (r := false) (by decide +kernel)
  | tuple l => exact kit_ty (a := "tuple") (b := "tuple") (r := true) (by decide +kernel)
  | dict l => exact kit_ty (a := "dict") (b := "tuple") (r := false) (by decide +kernel)
theorem boot_isi : bootBuiltins "isinstance" = some (.builtin "isinstance") := by decide +kernel
theorem boot_tint : bootBuiltins "int" = some (.type "int") := by decide +kernel
theorem boot_tbool : bootBuiltins "bool" = some (.type "bool") := by decide +kernel
theorem boot_tstr : bootBuiltins "str" = some (.type "str") := by decide +kernel
/-- the built-in names are not hidden -/
structure Bn (mg : Str → Option Value) : Prop where
  isi : mg "isinstance" = none
  int : mg "int" = none
  bool : mg "bool" = none
  str : mg "str" = none
  len : mg "len" = none
  list : mg "list" = none
  tuple : mg "tuple" = none
  all : mg "all" = none
  set : mg "set" = none
  repr : mg "repr" = none
  range : mg "range" = none
section
variable {P : Program} {w : World} {K : PySem.W.Frag} {mg : Str → Option Value} {base : Heap}
abbrev sIsInt : Stmt := top 12
def spIsInt (K : PySem.W.Frag) : Sp := fun vs H Q _ => ∃ (v : V) (d : PyData), vs = [v] ∧ Dq K H v d ∧ Q (.bl (isInt d)) H
theorem scIsInt : FnScope ["value"] ["value"] (defScope sIsInt) := ⟨rfl, rfl, rfl, by decide +kernel, rfl, by decide +kernel, by decide +kernel⟩
theorem ok_isInt {f : Addr} {fd : FuncData} (F : Fun K "is_integer" "is_integer" sIsInt f fd) (B : Bn mg) : FnOk P w K mg base CX0 1 f fd ["value"] (spIsInt K) := by
  refine F.ok scIsInt (fun vs H Q E h => ?_) (fun cdv A outer s H vs Q E hr h => ?_)
  · obtain ⟨v, d, rfl, _⟩ := h
    rfl
  · obtain ⟨v, d, rfl, q, k⟩ := h
    refine ⟨_, pss_one (ps_ret (pe_and (pe_callB call_isi (by rfl) B.isi boot_isi (pa_cons (pv 0) (pa_cons (pe_bltn (v := .ty "int") (by rfl) B.int boot_tint rfl) pa_nil)))
      (pe_one (pe_not (pe_callB call_isi (by rfl) B.isi boot_isi (pa_cons (pv 0) (pa_cons (pe_bltn (v := .ty "bool") (by rfl) B.bool boot_tbool rfl) pa_nil))))))), ?_⟩
    refine ⟨_, rfl, _, _, _, _, _, rfl, .ty "int", q.ty, kit_int d, _, rfl, ?_⟩
    cases d <;> first | exact k | skip
    all_goals
      refine ⟨_, rfl, _, _, _, _, _, rfl, .ty "bool", q.ty, kit_bool _, _, rfl, ?_⟩
      exact k
end
end Wp
set_option Elab.async false
set_option linter.all false
set_option maxRecDepth 100000
set_option maxHeartbeats 4000000
namespace Wp
open PySem L2
/-! ## words -/
def smallS : Str := "abcdefghijklmnopqrstuvwxyz"
def largeS : Str := "ABCDEFGHIJKLMNOPQRSTUVWXYZ"
/-- the written constants -/
structure Cn (mg : Str → Option Value) : Prop where
  small : ∃ u, mg "SMALL" = some u ∧ RelV (.str smallS) u
  large : ∃ u, mg "LARGE" = some u ∧ RelV (.str largeS) u
  most : ∃ u, mg "NAME_LETTERS" = some u ∧ RelV (.int 8) u
  bound : ∃ u, mg "DEFAULT_BOUND" = some u ∧ RelV (.int 1000000000000) u
  any : ∃ u, mg "ANY" = some u ∧ RelV (.str "any") u
  old : ∃ u, mg "OLD_NAMES" = some u ∧ RelV (.int 2) u
def lettersIn (z x : Str) : Bool := x.cps.toList.all fun c => decide (c ∈ z.cps.toList)
def isWordN (m : Int) : PyData → Bool
  | .str x => decide (1 ≤ x.length) && decide ((x.length : Int) ≤ m) && lettersIn smallS x
  | _ => false
/-- no text in it is long at its top -/
def Shrt : PyData → Prop
  | .str x => x.length ≤ 1000
  | _ => True
theorem boot_all : bootBuiltins "all" = some (.builtin "all") := by decide +kernel
theorem same_new {H : Hp} {D : Addr} {o : HO} (h : H D = none) : Same H (upd H D o) := fun b u e => by
  rw [upd_ne (ne_of_none e h)]
  exact e
theorem pe_cn {X : Cx} {x : Str} {v : V} {pos : Pos} (hg : Gl X x) (h : ∃ u, X.mg x = some u ∧ RelV v u) (hd : (x == ("__debug__" : Str)) = false := by decide) : PE X (.Name x pos) (tC v) :=
  h.elim fun _ q => pe_glob hg q.1 q.2 hd
section
variable {P : Program} {w : World} {K : PySem.W.Frag} {mg : Str → Option Value} {base : Heap}
abbrev sIsWord : Stmt := top 13
def spIsWord (K : PySem.W.Frag) : Sp := fun vs H Q _ => ∃ (v : V) (d : PyData) (m : Int), vs = [v, .int m] ∧ Dq K H v d ∧ Shrt d ∧ ∀ H', Same H H' → Q (.bl (isWordN m d)) H'
theorem scIsWord : FnScope ["value", "most", "letter"] ["value", "most"] (defScope sIsWord) := ⟨rfl, rfl, rfl, by decide +kernel, rfl, by decide +kernel, by decide +kernel⟩
theorem ok_isWord {f : Addr} {fd : FuncData} (F : Fun K "is_word" "is_word" sIsWord f fd) (B : Bn mg) (C : Cn mg) : FnOk P w K mg base CX0 1 f fd ["value", "most"] (spIsWord K) := by
  refine F.ok scIsWord (fun vs H Q E h => ?_) (fun cdv A outer s H vs Q E hr h => ?_)
  · obtain ⟨v, d, m, rfl, _⟩ := h
    rfl
  · obtain ⟨v, d, m, rfl, q, sh, k⟩ := h
    refine ⟨_, pss_one (ps_ret (pe_and (pe_callB call_isi (by rfl) B.isi boot_isi (pa_cons (pv 0) (pa_cons (pe_bltn (v := .ty "str") (by rfl) B.str boot_tstr rfl) pa_nil)))
      (pe_and (pe_chain op_le op_le pe_int (pe_callB call_len_str (by rfl) B.len PySem.boot_len (pa_cons (pv 0) pa_nil)) (pv 1))
      (pe_one (pe_callB (cr_all rfl) (by rfl) B.all boot_all (pa_cons (pe_lc (own := [("letter", 2)]) (g := gName 2) (tt := tYes) rfl scIsWord.nd (pi_str (pv 0))
        (blkOk_by (N := ["value", "most", "letter"]) (sc := defScope sIsWord) (by decide +kernel)) (fun _ _ _ _ _ => pg_name (i := 2) scIsWord.nd rfl (Or.inl rfl)) (fun _ _ _ _ _ => pts_nil)
        (fun _ _ _ _ _ => pe_cmpR op_in_sign (pv 2) (pe_cn (by rfl) C.small) (by rfl))) pa_nil)))))), ?_⟩
    refine ⟨_, rfl, _, _, _, _, _, rfl, .ty "str", q.ty, kit_str d, _, rfl, ?_⟩
    cases d with
    | str x =>
      have ev : v = .str x := by
        cases q with
        | dat q _ => cases q; rfl
      subst ev
      refine ⟨_, rfl, x, rfl, ?_, ?_⟩
      · have : x.length ≤ 1000 := sh
        rw [sizeLine_eq]
        omega
      refine ⟨_, _, rfl, rfl, _, rfl, ?_⟩
      refine ite2 (fun h1 => ?_) (fun h1 => ?_)
      · refine ⟨_, rfl, _, _, rfl, rfl, _, rfl, ?_⟩
        refine ite2 (fun h2 => ?_) (fun h2 => ?_)
        · refine ⟨_, rfl, x, rfl, fun D hD => ?_⟩
          refine lc_it walk_str (fun i H' => H' = upd H D (.lst ((x.cps.toList.take i).map fun c => V.bl (decide (c ∈ smallS.cps.toList))))) rfl (fun _ _ _ _ => trivial) ?_ ?_
          · rintro i y H1 H2 hi rfl ⟨rfl, c, hc, rfl⟩
            refine ⟨rfl, ⟨_, rfl, c, _, rfl, rfl, _, upd_same, ?_, ?_⟩⟩
            · have e1 : x.cps.size ≤ 1000 := sh
              rw [sizeLine_eq, List.length_map, List.length_take]
              omega
            · rw [upd_upd, List.take_add_one, Array.getElem?_toList, hc]
              simp
          · rintro H1 rfl
            refine ⟨D, x.cps.toList.map fun c => decide (c ∈ smallS.cps.toList), rfl, ?_, ?_⟩
            · have e1 : x.cps.toList.take x.cps.size = x.cps.toList := List.take_of_length_le (by simp)
              rw [e1, List.map_map]
              exact SqL.of upd_same
            · have e2 : (x.cps.toList.map fun c => decide (c ∈ smallS.cps.toList)).all id = isWordN m (.str x) := by
                simp only [isWordN, lettersIn]
                rw [show decide (1 ≤ x.length) = true from decide_eq_true (by have := of_decide_eq_true h1; omega), show decide ((x.length : Int) ≤ m) = true from h2]
                simp [List.all_map, Function.comp_def]
              rw [e2]
              exact k _ (same_new hD)
        · have e : isWordN m (.str x) = false := by
            simp only [isWordN]
            rw [decide_eq_false (p := (x.length : Int) ≤ m) fun z => h2 (decide_eq_true z)]
            simp
          have r := k H fun b o z => z
          rw [e] at r
          exact r
      · refine ⟨_, rfl, ?_⟩
        have e : isWordN m (.str x) = false := by
          simp only [isWordN]
          rw [decide_eq_false fun z => h1 (decide_eq_true (by omega))]
          simp
        have r := k H fun b o z => z
        rw [e] at r
        rw [if_neg (by decide)]
        exact r
    | _ => exact k H fun b o e => e
end
end Wp
set_option Elab.async false
set_option linter.all false
set_option maxRecDepth 100000
set_option maxHeartbeats 4000000
namespace Wp
open PySem L2
/-! ## names, defaults, different texts -/
def isFieldName (d : PyData) : Bool := isWordN 8 d
def isKindName : PyData → Bool
  | .str x => match x.cps.toList with
    | [] => false
    | c :: r => decide (x.length ≤ 8) && decide (c ∈ largeS.cps.toList) && r.all fun c => decide (c ∈ smallS.cps.toList)
  | _ => false
def isDefault : PyData → Bool
  | .int i => decide (-1000000000000 < i) && decide (i < 1000000000000)
  | _ => false
/-- [letter in Z for letter in z] -/
def tInSign (Z : Str) (i : Nat) : TE := tOp (fun x y H Q => ∃ (c : Nat) (z : Str), x = .str ⟨#[c]⟩ ∧ y = .str z ∧ Q (.bl (decide (c ∈ z.cps.toList))) H) (tVar i) (tC (.str Z))
theorem lc_signs {z Z : Str} {i : Nat} {σ : L2.St} {H : Hp} {D : Addr} {Q : Hp → Prop} (hi : i < σ.length) (few : z.length ≤ 1000) (k : Q (upd H D (.lst ((z.cps.toList.map fun c => decide (c ∈ Z.cps.toList)).map V.bl)))) :
    ∃ W : Nat → Nat → Hp → Prop, (∃ m, W 0 m (upd H D (.lst []))) ∧ ∀ j m H, W j m H →
      ((Its z).stop j H ∧ Q H) ∨ ((Its z).go j H ∧ ∃ Nx : Hp → Prop, (∀ H', Nx H' → ∃ m', m' < m ∧ W (j + 1) m' H') ∧ ∀ x H', (Its z).yld j H x H' → gName i x (wipe σ [i]) H' fun σ2 H2 => wipe σ2 [i] = wipe σ [i] ∧ tYes σ2 H2 fun b H3 =>
        if b = true then tInSign Z i σ2 H3 fun y H4 => ∃ acc, H4 D = some (.lst acc) ∧ acc.length < sizeLine ∧ Nx (upd H4 D (.lst (acc ++ [y]))) else Nx H3) := by
  refine lc_it walk_str (fun j H' => H' = upd H D (.lst (((z.cps.toList.take j).map fun c => decide (c ∈ Z.cps.toList)).map V.bl))) rfl (fun _ _ _ _ => trivial) ?_ ?_
  · rintro j y H1 H2 hj rfl ⟨rfl, c, hc, rfl⟩
    refine ⟨by simp [wipe, List.set_set], ⟨.str ⟨#[c]⟩, ?_, c, Z, rfl, rfl, _, upd_same, ?_, ?_⟩⟩
    · simp [wipe, hi]
    · have e1 : z.cps.size ≤ 1000 := few
      rw [sizeLine_eq, List.length_map, List.length_map, List.length_take]
      omega
    · rw [upd_upd, List.take_add_one, Array.getElem?_toList, hc]
      simp
  · rintro H1 rfl
    rw [List.take_of_length_le (by simp)]
    exact k
/-- the def, and by which name it is found -/
structure Known (P : Program) (w : World) (K : PySem.W.Frag) (mg : Str → Option Value) (base : Heap) (CX : CXT) (k : Nat) (x : Str) (ps : List Str) (sp : Sp) (f : Addr) (fd : FuncData) : Prop where
  ok : FnOk P w K mg base CX k f fd ps sp
  mg : mg x = some (.ref f)
  kp : PySem.W.keepIn K (.ref f) = true
  bi : Binds K fd ps []
section
variable {P : Program} {w : World} {K : PySem.W.Frag} {mg : Str → Option Value} {base : Heap}
abbrev sIsField : Stmt := top 14
def spIsField (K : PySem.W.Frag) : Sp := fun vs H Q _ => ∃ (v : V) (d : PyData), vs = [v] ∧ Dq K H v d ∧ Shrt d ∧ ∀ H', Same H H' → Q (.bl (isFieldName d)) H'
theorem scIsField : FnScope ["value"] ["value"] (defScope sIsField) := ⟨rfl, rfl, rfl, by decide +kernel, rfl, by decide +kernel, by decide +kernel⟩
theorem ok_isField {f fW : Addr} {fd fdW : FuncData} (F : Fun K "is_field_name" "is_field_name" sIsField f fd) (C : Cn mg) (W : Known P w K mg base CX0 1 "is_word" ["value", "most"] (spIsWord K) fW fdW) : FnOk P w K mg base CX0 2 f fd ["value"] (spIsField K) := by
  refine F.ok scIsField (fun vs H Q E h => ?_) (fun cdv A outer s H vs Q E hr h => ?_)
  · obtain ⟨v, d, rfl, _⟩ := h
    rfl
  · obtain ⟨v, d, rfl, q, sh, k⟩ := h
    refine ⟨_, pss_one (ps_ret (pe_call W.ok hr rfl W.mg W.kp W.bi .nil pass0 (pa_cons (pv 0) (pa_cons (pe_cn (by rfl) C.most) pa_nil)))), ?_⟩
    exact ⟨_, rfl, v, d, 8, rfl, q, sh, k⟩
abbrev sIsKind : Stmt := top 15
def spIsKind (K : PySem.W.Frag) : Sp := fun vs H Q _ => ∃ (v : V) (d : PyData), vs = [v] ∧ Dq K H v d ∧ Shrt d ∧ ∀ H', Same H H' → Q (.bl (isKindName d)) H'
theorem scIsKind : FnScope ["value", "letter"] ["value"] (defScope sIsKind) := ⟨rfl, rfl, rfl, by decide +kernel, rfl, by decide +kernel, by decide +kernel⟩
theorem ok_isKind {f : Addr} {fd : FuncData} (F : Fun K "is_kind_name" "is_kind_name" sIsKind f fd) (B : Bn mg) (C : Cn mg) : FnOk P w K mg base CX0 1 f fd ["value"] (spIsKind K) := by
  refine F.ok scIsKind (fun vs H Q E h => ?_) (fun cdv A outer s H vs Q E hr h => ?_)
  · obtain ⟨v, d, rfl, _⟩ := h
    rfl
  · obtain ⟨v, d, rfl, q, sh, k⟩ := h
    refine ⟨_, pss_cons (ps_if (PW.pt (pw_or (pt_not (pt_val (pe_callB call_isi (by rfl) B.isi boot_isi (pa_cons (pv 0) (pa_cons (pe_bltn (v := .ty "str") (by rfl) B.str boot_tstr rfl) pa_nil)))))
        (pw_or1 (pt_not (pt_chain op_le op_le pe_int (pe_callB call_len_str (by rfl) B.len PySem.boot_len (pa_cons (pv 0) pa_nil)) (pe_cn (by rfl) C.most))))))
        (pss_one (ps_ret pe_bl)) pss_nil)
      (pss_one (ps_ret (pe_and (pe_cmpR op_in_sign (pe_ix ix_str (pv 0) pe_int (fun _ _ => rfl)) (pe_cn (by rfl) C.large) (by rfl))
        (pe_one (pe_callB (cr_all rfl) (by rfl) B.all boot_all (pa_cons (pe_lc (own := [("letter", 1)]) (g := gName 1) (tt := tYes) rfl scIsKind.nd (pi_str (pe_slice sl_str (pv 0) (po_some pe_int) po_none))
        (blkOk_by (N := ["value", "letter"]) (sc := defScope sIsKind) (by decide +kernel)) (fun _ _ _ _ _ => pg_name (i := 1) scIsKind.nd rfl (Or.inl rfl)) (fun _ _ _ _ _ => pts_nil)
        (fun _ _ _ _ _ => pe_cmpR op_in_sign (pv 1) (pe_cn (by rfl) C.small) (by rfl))) pa_nil)))))), ?_⟩
    refine ⟨_, rfl, _, _, _, _, _, rfl, .ty "str", q.ty, kit_str d, _, rfl, ?_⟩
    cases d with
    | str x =>
      have ev : v = .str x := by
        cases q with
        | dat q _ => cases q; rfl
      subst ev
      have few : x.length ≤ 1000 := sh
      have line : x.length ≤ sizeLine := by
        rw [sizeLine_eq]
        omega
      refine ⟨_, rfl, x, rfl, line, ?_⟩
      refine ⟨_, _, rfl, rfl, _, rfl, ?_⟩
      refine ite2 (fun h1 => ?_) (fun h1 => ?_)
      · refine ⟨_, _, rfl, rfl, _, rfl, ?_⟩
        cases h2 : decide ((x.length : Int) ≤ 8) with
        | true =>
          have g1 : 1 ≤ x.length := by
            have := of_decide_eq_true h1
            omega
          have g2 : x.length ≤ 8 := by
            have := of_decide_eq_true h2
            omega
          obtain ⟨c, r, ex⟩ : ∃ c r, x.cps.toList = c :: r := by
            cases e : x.cps.toList with
            | nil =>
              have : x.cps.toList.length = 0 := by rw [e]; rfl
              rw [Array.length_toList] at this
              have e2 : x.length = x.cps.size := rfl
              omega
            | cons c r => exact ⟨c, r, rfl⟩
          refine ⟨_, rfl, x, 0, c, rfl, rfl, line, by rw [ex]; exact atI_nat (j := 0) rfl, c, _, rfl, rfl, _, rfl, ?_⟩
          have ek : isKindName (.str x) = (decide (c ∈ largeS.cps.toList) && r.all fun c => decide (c ∈ smallS.cps.toList)) := by
            simp only [isKindName, ex]
            simp [g2]
          refine ite2 (fun h3 => ?_) (fun h3 => ?_)
          · refine ⟨_, rfl, 1, rfl, x, rfl, line, cutS x (some 1) none, rfl, fun D hD => ?_⟩
            have ec : (cutS x (some 1) none).cps.toList = r := by
              have e1 : HT.sIx x.length 0 (some 1) = 1 := by
                rw [show ((1 : Int)) = ((1 : Nat) : Int) from rfl, HT.sIx_nat]
                omega
              have e2 : HT.sIx x.length x.length none = x.length := rfl
              have e3 : x.length = r.length + 1 := by
                have : x.cps.toList.length = (c :: r).length := by rw [ex]
                rw [Array.length_toList] at this
                exact this
              show (((x.cps.toList.drop (HT.sIx x.length 0 (some 1))).take (HT.sIx x.length x.length none - HT.sIx x.length 0 (some 1))).toArray).toList = r
              rw [e1, e2, ex, e3]
              simp
            refine lc_signs (Z := smallS) (Nat.lt_of_lt_of_eq (by decide : 1 < 2) rfl) (Nat.le_trans (cutS_length _ _ _) few) ?_
            refine ⟨D, _, rfl, SqL.of upd_same, ?_⟩
            have r1 := k _ (same_new (o := .lst (((cutS x (some 1) none).cps.toList.map fun c => decide (c ∈ smallS.cps.toList)).map V.bl)) hD)
            rw [ek, h3, ← ec] at r1
            rw [List.all_map]
            exact r1
          · have r1 := k H fun b o e => e
            rw [ek] at r1
            have h4 : decide (c ∈ largeS.cps.toList) = false := by simpa using h3
            rw [h4] at r1
            exact r1
        | false =>
          have ek : isKindName (.str x) = false := by
            simp only [isKindName]
            cases x.cps.toList with
            | nil => rfl
            | cons c r =>
              rw [decide_eq_false (p := x.length ≤ 8) (by have := of_decide_eq_false h2; omega)]
              rfl
          have r1 := k H fun b o e => e
          rw [ek] at r1
          exact r1
      · have e0 : x.length = 0 := by
          have := h1
          simp at this
          omega
        have ek : isKindName (.str x) = false := by
          have e1 : x.cps.toList = [] := by
            apply List.eq_nil_of_length_eq_zero
            rw [Array.length_toList]
            exact e0
          simp only [isKindName, e1]
        have r1 := k H fun b o e => e
        rw [ek] at r1
        exact ⟨_, rfl, r1⟩
    | _ => exact k H fun b o e => e
end
end Wp
set_option Elab.async false
set_option linter.all false
set_option maxRecDepth 100000
set_option maxHeartbeats 4000000
namespace Wp
open PySem L2
section
variable {P : Program} {w : World} {K : PySem.W.Frag} {mg : Str → Option Value} {base : Heap}
theorem Dq.int_of {H : Hp} {v : V} {d : PyData} (q : Dq K H v d) (e : isInt d = true) : ∃ i, v = .int i ∧ d = .int i := by
  cases d <;> cases e
  cases q with
  | dat q _ =>
    cases q
    exact ⟨_, rfl, rfl⟩
theorem Dq.str_of {H : Hp} {v : V} {x : Str} (q : Dq K H v (.str x)) : v = .str x := by
  cases q with
  | dat q _ =>
    cases q
    rfl
abbrev sIsDef : Stmt := top 16
def spIsDef (K : PySem.W.Frag) : Sp := fun vs H Q _ => ∃ (v : V) (d : PyData), vs = [v] ∧ Dq K H v d ∧ Q (.bl (isDefault d)) H
theorem scIsDef : FnScope ["value"] ["value"] (defScope sIsDef) := ⟨rfl, rfl, rfl, by decide +kernel, rfl, by decide +kernel, by decide +kernel⟩
theorem ok_isDef {f fW : Addr} {fd fdW : FuncData} (F : Fun K "is_default" "is_default" sIsDef f fd) (C : Cn mg) (W : Known P w K mg base CX0 1 "is_integer" ["value"] (spIsInt K) fW fdW) : FnOk P w K mg base CX0 2 f fd ["value"] (spIsDef K) := by
  refine F.ok scIsDef (fun vs H Q E h => ?_) (fun cdv A outer s H vs Q E hr h => ?_)
  · obtain ⟨v, d, rfl, _⟩ := h
    rfl
  · obtain ⟨v, d, rfl, q, k⟩ := h
    refine ⟨_, pss_one (ps_ret (pe_and (pe_call W.ok hr rfl W.mg W.kp W.bi .nil pass0 (pa_cons (pv 0) pa_nil)) (pe_one (pe_chain op_lt op_lt (pe_un un_neg (pe_cn (by rfl) C.bound)) (pv 0) (pe_cn (by rfl) C.bound))))), ?_⟩
    refine ⟨_, rfl, v, d, rfl, q, _, rfl, ?_⟩
    cases e : isInt d with
    | true =>
      obtain ⟨i, rfl, rfl⟩ := q.int_of e
      refine ⟨_, rfl, _, rfl, _, _, rfl, rfl, _, rfl, ?_⟩
      cases e2 : decide (-1000000000000 < i) with
      | true =>
        refine ⟨_, _, rfl, rfl, ?_⟩
        have r := k
        simp only [isDefault, e2, Bool.true_and] at r
        exact r
      | false =>
        have r := k
        simp only [isDefault, e2, Bool.false_and] at r
        exact r
    | false =>
      have e2 : isDefault d = false := by cases d <;> first | rfl | cases e
      rw [e2] at k
      exact k
abbrev sDiff : Stmt := top 17
/-- a list or tuple of texts -/
def Txs (K : PySem.W.Frag) (H : Hp) (a : Addr) (xs : List Str) : Prop := (SqL K H a (xs.map V.str) ∨ SqT K H a (xs.map V.str)) ∧ xs.length ≤ 1000
def spDiff (K : PySem.W.Frag) : Sp := fun vs H Q _ => ∃ (a : Addr) (xs : List Str), vs = [.ref a] ∧ Txs K H a xs ∧ Q (.bl (decide xs.Nodup)) H
theorem scDiff : FnScope ["names"] ["names"] (defScope sDiff) := ⟨rfl, rfl, rfl, by decide +kernel, rfl, by decide +kernel, by decide +kernel⟩
theorem ok_diff {f : Addr} {fd : FuncData} (F : Fun K "are_different" "are_different" sDiff f fd) (B : Bn mg) : FnOk P w K mg base CX0 1 f fd ["names"] (spDiff K) := by
  refine F.ok scDiff (fun vs H Q E h => ?_) (fun cdv A outer s H vs Q E hr h => ?_)
  · obtain ⟨a, xs, rfl, _⟩ := h
    rfl
  · obtain ⟨a, xs, rfl, ⟨sq, few⟩, k⟩ := h
    refine ⟨_, pss_one (ps_ret (pe_cmpR op_eq (pe_lenTxt (by rfl) B.len (by rfl) B.set (pv 0)) (pe_callB call_len_seq (by rfl) B.len PySem.boot_len (pa_cons (pv 0) pa_nil)) (nomark _))), ?_⟩
    refine ⟨_, rfl, a, xs, rfl, sq, by omega, _, rfl, a, xs.map V.str, rfl, sq, rfl, ?_⟩
    have e : decide (V.int ((TS.once xs).length : Nat) = V.int (xs.map V.str).length) = decide xs.Nodup := by
      by_cases n : xs.Nodup
      · rw [decide_eq_true n, (TS.once_len xs).mpr n]
        simp
      · rw [decide_eq_false n]
        refine decide_eq_false fun z => n ((TS.once_len xs).mp ?_)
        injection z with z
        simp at z
        omega
    rw [e]
    exact k
end
end Wp
set_option Elab.async false
set_option linter.all false
set_option maxRecDepth 100000
set_option maxHeartbeats 4000000
namespace Wp
open PySem L2
def isNon : PyData → Bool
  | .none => true
  | _ => false
def isZero : PyData → Bool
  | .int i => decide (i = 0)
  | _ => false
def fitsMode (m t d : PyData) : Bool :=
  if isTxt m "mark" then isNon t && isDefault d
  else (isTxt m "link" || isTxt m "list") && isZero d && (isTxt t "any" || isKindName t)
theorem Dq.non {K : PySem.W.Frag} {H : Hp} {v : V} {d : PyData} (q : Dq K H v d) : decide (v = .non) = isNon d := by
  cases q with
  | dat q _ => cases q <;> simp [isNon]
  | dct _ => simp [isNon]
section
variable {K : PySem.W.Frag} {H H' : Hp}
theorem sqL_same (e : Same H H') {a : Addr} {xs : List V} (h : SqL K H a xs) : SqL K H' a xs := SqL.ext h e
theorem sqT_same (e : Same H H') {a : Addr} {xs : List V} (h : SqT K H a xs) : SqT K H' a xs := SqT.ext h e
mutual
theorem dp_same (e : Same H H') : ∀ {v : V} {d : PyData}, Dp K H v d → Dp K H' v d
  | _, _, .non => .non
  | _, _, .bl b => .bl b
  | _, _, .int i => .int i
  | _, _, .str x => .str x
  | _, _, .lst s a => .lst (sqL_same e s) (dpAll_same e a)
  | _, _, .tup s a => .tup (sqT_same e s) (dpAll_same e a)
theorem dpAll_same (e : Same H H') : ∀ {vs : List V} {ds : List PyData}, DpAll K H vs ds → DpAll K H' vs ds
  | _, _, .nil => .nil
  | _, _, .cons a b => .cons (dp_same e a) (dpAll_same e b)
end
theorem Dq.same (e : Same H H') {v : V} {d : PyData} (q : Dq K H v d) : Dq K H' v d := by
  cases q with
  | dat q sh => exact .dat (dp_same e q) sh
  | dct h => exact .dct (e _ _ h)
end
structure Mo (K : PySem.W.Frag) (mg : Str → Option Value) : Prop where
  modes : ∃ (t : Addr) (o : Obj) (us : List Value) (n : Nat), mg "SLOT_MODES" = some (.ref t) ∧ ∀ H : Hp, SqT K H t [.str "link", .str "list"]
theorem sh_mark : SeqAt.shaped (.str "mark") = true := by decide +kernel
theorem sh_any : SeqAt.shaped (.str "any") = true := by decide +kernel
theorem sh_modes : ∀ z ∈ (["link", "list"] : List Str), SeqAt.shaped (.str z) = true := by decide +kernel
section
variable {P : Program} {w : World} {K : PySem.W.Frag} {mg : Str → Option Value} {base : Heap}
abbrev sFits : Stmt := top 22
def spFits (K : PySem.W.Frag) : Sp := fun vs H Q _ => ∃ (u v x : V) (m t d : PyData), vs = [u, v, x] ∧ Dq K H u m ∧ Dq K H v t ∧ Dq K H x d ∧ Shrt t ∧ ∀ H', Same H H' → Q (.bl (fitsMode m t d)) H'
theorem scFits : FnScope ["mode", "target", "default"] ["mode", "target", "default"] (defScope sFits) := ⟨rfl, rfl, rfl, by decide +kernel, rfl, by decide +kernel, by decide +kernel⟩
theorem ok_fits {f f1 f2 f3 : Addr} {fd fd1 fd2 fd3 : FuncData} (F : Fun K "_fits_mode" "_fits_mode" sFits f fd) (C : Cn mg) (M : Mo K mg) (I : Known P w K mg base CX0 1 "is_integer" ["value"] (spIsInt K) f1 fd1)
    (D : Known P w K mg base CX0 2 "is_default" ["value"] (spIsDef K) f2 fd2) (N : Known P w K mg base CX0 1 "is_kind_name" ["value"] (spIsKind K) f3 fd3) : FnOk P w K mg base CX0 3 f fd ["mode", "target", "default"] (spFits K) := by
  obtain ⟨tm, _, _, _, mt, sq⟩ := M.modes
  refine F.ok scFits (fun vs H Q E h => ?_) (fun cdv A outer s H vs Q E hr h => ?_)
  · obtain ⟨u, v, x, m, t, d, rfl, _⟩ := h
    rfl
  · obtain ⟨u, v, x, m, t, d, rfl, qm, qt, qd, sh, k⟩ := h
    have hu1 : (A.deeper (PyProof.Rows.envOfC "_fits_mode" (defScope sFits) s.heap.objs.size f cdv)).units + 65 < cLine := by
      have := hr.un
      omega
    refine ⟨_, pss_cons (ps_if (pt_cmpR (op_eqTxt hr.units) (pv 0) pe_str (nomark _))
        (pss_one (ps_ret (pe_and (pe_cmpR op_isN (pv 1) pe_non (nomark _)) (pe_one (pe_call D.ok hr rfl D.mg D.kp D.bi .nil pass0 (pa_cons (pv 2) pa_nil)))))) pss_nil)
      (pss_cons (ps_if (PW.pt (pw_or (pt_cmpR (op_notInTxt hu1) (pv 0) (pe_glob (v := .ref tm) (by rfl) mt rfl) (by rfl))
          (pw_or (pt_not (pt_val (pe_call I.ok (hr.mono (by decide)) rfl I.mg I.kp I.bi .nil pass0 (pa_cons (pv 2) pa_nil)))) (pw_or1 (pt_cmpR op_ne (pv 2) pe_int (nomark _))))))
        (pss_one (ps_ret pe_bl)) pss_nil)
      (pss_one (ps_ret (pe_or (pe_cmpR (op_eqTxt hr.units) (pv 1) (pe_cn (by rfl) C.any) (nomark _)) (pe_one (pe_call N.ok (hr.mono (by decide)) rfl N.mg N.kp N.bi .nil pass0 (pa_cons (pv 1) pa_nil))))))), ?_⟩
    refine ⟨_, rfl, m, "mark", rfl, sh_mark, qm, _, rfl, ?_⟩
    cases e1 : isTxt m "mark" with
    | true =>
      refine ⟨_, rfl, rfl, _, rfl, ?_⟩
      rw [qt.non]
      have r := k H fun b o z => z
      simp only [fitsMode, e1, if_true] at r
      cases e2 : isNon t with
      | true =>
        refine ⟨_, rfl, x, d, rfl, qd, ?_⟩
        rw [e2, Bool.true_and] at r
        exact r
      | false =>
        rw [e2, Bool.false_and] at r
        exact r
    | false =>
      have ef : fitsMode m t d = ((isTxt m "link" || isTxt m "list") && isZero d && (isTxt t "any" || isKindName t)) := by
        simp only [fitsMode, e1]
        simp
      refine ⟨_, rfl, m, tm, ["link", "list"], rfl, sq H, sh_modes, qm, _, rfl, ?_⟩
      have ea : (["link", "list"] : List Str).any (fun z => isTxt m z) = (isTxt m "link" || isTxt m "list") := by simp
      rw [ea]
      cases e3 : (isTxt m "link" || isTxt m "list") with
      | false =>
        have r := k H fun b o z => z
        rw [ef, e3, Bool.false_and, Bool.false_and] at r
        exact r
      | true =>
        refine ⟨_, rfl, x, d, rfl, qd, _, rfl, ?_⟩
        cases e4 : isInt d with
        | false =>
          have r := k H fun b o z => z
          have e5 : isZero d = false := by cases d <;> first | rfl | cases e4
          rw [ef, e3, e5, Bool.true_and, Bool.false_and] at r
          exact r
        | true =>
          obtain ⟨i, rfl, rfl⟩ := qd.int_of e4
          refine ⟨_, rfl, rfl, _, rfl, ?_⟩
          cases e5 : decide (i = 0) with
          | false =>
            have r := k H fun b o z => z
            have e6 : isZero (.int i) = false := e5
            rw [ef, e3, e6, Bool.true_and, Bool.false_and] at r
            have e7 : decide (V.int i = V.int 0) = false := by
              refine decide_eq_false fun z => ?_
              injection z with z
              exact of_decide_eq_false e5 z
            rw [e7]
            exact r
          | true =>
            have e7 : i = 0 := of_decide_eq_true e5
            subst e7
            rw [decide_eq_true rfl]
            refine ⟨_, rfl, t, "any", rfl, sh_any, qt, _, rfl, ?_⟩
            have e8 : fitsMode m t (.int 0) = (isTxt t "any" || isKindName t) := by
              rw [ef, e3]
              rfl
            cases e9 : isTxt t "any" with
            | true =>
              have r := k H fun b o z => z
              rw [e8, e9, Bool.true_or] at r
              exact r
            | false =>
              refine ⟨_, rfl, v, t, rfl, qt, sh, fun H' sm => ?_⟩
              have r := k H' sm
              rw [e8, e9, Bool.false_or] at r
              exact r
end
end Wp
set_option Elab.async false
set_option linter.all false
set_option maxRecDepth 100000
set_option maxHeartbeats 4000000
namespace Wp
open PySem L2
theorem PI.or {X : Cx} {tg l : Expr} {a b : TI} (h : PI X tg l a) (h' : PI X tg l b) : PI X tg l (fun σ H R => a σ H R ∨ b σ H R) :=
  ⟨fun pins s σ H R I q => q.elim (h.run pins s σ H R I) (h'.run pins s σ H R I)⟩
theorem Same.refl (H : Hp) : Same H H := fun _ _ e => e
theorem Same.trans {H H1 H2 : Hp} (a : Same H H1) (b : Same H1 H2) : Same H H2 := fun c o e => b c o (a c o e)
/-- [f(x) for x in xs], what is called only makes things -/
theorem lc_grow {J : It} {G : Hp → Prop} {xs : List V} {f : Nat → V} {te : TE} {i : Nat} {σ : L2.St} {H : Hp} {D : Addr} {Q : Hp → Prop} (w : Walk J xs.length G (YAt xs)) (few : xs.length ≤ 1000) (hG : ∀ H', Same H H' → G H') (new : H D = none)
    (turn : ∀ (j : Nat) (x : V) (H1 : Hp) (R : VK), xs[j]? = some x → Same H H1 → (∀ H2, Same H1 H2 → R (f j) H2) → te ((σ.set i none).set i (some x)) H1 R)
    (k : ∀ H', Same H H' → H' D = some (.lst ((List.range xs.length).map f)) → Q H') :
    ∃ W : Nat → Nat → Hp → Prop, (∃ m, W 0 m (upd H D (.lst []))) ∧ ∀ j m H, W j m H →
      (J.stop j H ∧ Q H) ∨ (J.go j H ∧ ∃ Nx : Hp → Prop, (∀ H', Nx H' → ∃ m', m' < m ∧ W (j + 1) m' H') ∧ ∀ x H', J.yld j H x H' → gName i x (wipe σ [i]) H' fun σ2 H2 => wipe σ2 [i] = wipe σ [i] ∧ tYes σ2 H2 fun b H3 =>
        if b = true then te σ2 H3 fun y H4 => ∃ acc, H4 D = some (.lst acc) ∧ acc.length < sizeLine ∧ Nx (upd H4 D (.lst (acc ++ [y]))) else Nx H3) := by
  refine lc_it w (fun j H' => Same H H' ∧ H' D = some (.lst ((List.range j).map f))) ⟨same_new new, upd_same⟩ (fun j H' _ q => hG H' q.1) ?_ fun H' q => k H' q.1 q.2
  rintro j x H1 H2 hj ⟨sm, hD⟩ ⟨rfl, hx⟩
  refine ⟨by simp [wipe, List.set_set], turn j x H2 _ hx sm fun H3 s3 => ⟨_, s3 _ _ hD, ?_, ?_, ?_⟩⟩
  · rw [List.length_map, List.length_range, sizeLine_eq]
    omega
  · intro b o e
    by_cases z : b = D
    · rw [z, new] at e
      cases e
    · rw [upd_ne z]
      exact s3 _ _ (sm _ _ e)
  · rw [upd_same, List.range_succ, List.map_append]
    rfl
/-- the thing at a is as it was -/
def Stays (a : Addr) (H H' : Hp) : Prop := ∀ o, H a = some o → H' a = some o
theorem Stays.of {a : Addr} {H H' : Hp} (e : Same H H') : Stays a H H' := fun o q => e a o q
theorem Stays.sqL {K : PySem.W.Frag} {a : Addr} {H H' : Hp} {xs : List V} (e : Stays a H H') (h : SqL K H a xs) : SqL K H' a xs :=
  h.elim (fun h => .inl (h.elim (fun h => .inl (e _ h)) fun ⟨o, h⟩ => .inr ⟨o, e _ h⟩)) fun h => .inr h
theorem Stays.sqT {K : PySem.W.Frag} {a : Addr} {H H' : Hp} {xs : List V} (e : Stays a H H') (h : SqT K H a xs) : SqT K H' a xs :=
  h.elim (fun h => .inl (h.elim (fun h => .inl (e _ h)) fun ⟨o, h⟩ => .inr ⟨o, e _ h⟩)) fun h => .inr h
/-- over what slot i holds, a list or a tuple -/
def iSeqV (K : PySem.W.Frag) (i : Nat) : TI := fun σ H R => ∃ (a : Addr) (xs : List V), σ[i]? = some (some (.ref a)) ∧ (SqL K H a xs ∨ SqT K H a xs) ∧ ∀ (J : It) (G : Hp → Prop), Walk J xs.length G (YAt xs) → (∀ H', Stays a H H' → G H') → R J H
theorem pi_seqV {X : Cx} {tg l : Expr} {i : Nat} (h : PE X l (tVar i)) : PI X tg l (iSeqV X.K i) := by
  constructor
  rintro pins s σ H R I ⟨a, xs, e, sq, k⟩
  refine (PI.or (pi_list h) (pi_tup h)).run pins s σ H R I ?_
  rcases sq with sq | sq
  · exact .inl ⟨_, e, a, rfl, ⟨xs, sq⟩, k _ _ walk_list fun H' z => z.sqL sq⟩
  · exact .inr ⟨_, e, a, rfl, ⟨xs, sq⟩, k _ _ walk_tup fun H' z => z.sqT sq⟩
def seqOf : PyData → Option (List PyData)
  | .list ds => some ds
  | .tuple ds => some ds
  | _ => none
def txts : List PyData → List Str
  | [] => []
  | .str x :: r => x :: txts r
  | _ :: r => txts r
def wasRight (n : Str) (d : PyData) : Bool := match seqOf d with
  | some ds => decide (ds.length ≤ 2) && ds.all isFieldName && !(txts ds).contains n && decide (txts ds).Nodup
  | none => false
/-- no long text in it either -/
def ShrtS (d : PyData) : Prop := ∀ ds, seqOf d = some ds → ∀ x ∈ ds, Shrt x
theorem shaped_item {ds : List PyData} (h : SeqAt.shaped (.list ds) = true) : ∀ d ∈ ds, SeqAt.shaped d = true := by
  have key : ∀ ds : List PyData, PyData.canLayAll0 ds = true → ∀ n, PyData.depthAll ds ≤ n → ∀ d ∈ ds, d.canLay0 = true ∧ d.depth ≤ n := by
    intro ds
    induction ds with
    | nil => intro _ n _ d m; cases m
    | cons x r ih =>
      intro a n b d m
      simp only [PyData.canLayAll0, Bool.and_eq_true] at a
      simp only [PyData.depthAll] at b
      rcases List.mem_cons.mp m with rfl | m
      · exact ⟨a.1, by omega⟩
      · exact ih a.2 n (by omega) d m
  have h1 := SeqAt.canLay_of_shaped h
  have h2 : PyData.depthAll ds + 1 ≤ 64 := by
    have := SeqAt.depth_of_shaped h
    simpa only [PyData.depth] using this
  intro d m
  have q := key ds (by simpa only [PyData.canLay0] using h1) 63 (by omega) d m
  simp only [SeqAt.shaped, Bool.and_eq_true, decide_eq_true_eq]
  exact ⟨q.1, by omega⟩
theorem shaped_tup (ds : List PyData) : SeqAt.shaped (.tuple ds) = SeqAt.shaped (.list ds) := rfl
section
variable {K : PySem.W.Frag} {H : Hp}
theorem dpAll_get : ∀ {vs : List V} {ds : List PyData}, DpAll K H vs ds → vs.length = ds.length ∧ ∀ (j : Nat) (v : V), vs[j]? = some v → ∃ d, ds[j]? = some d ∧ Dp K H v d
  | _, _, .nil => ⟨rfl, fun j v e => by simp at e⟩
  | _, _, .cons (v := v) (d := d) a b => by
    obtain ⟨l, g⟩ := dpAll_get b
    refine ⟨by simp [l], fun j u e => ?_⟩
    cases j with
    | zero =>
      simp at e
      subst e
      exact ⟨d, rfl, a⟩
    | succ j => exact g j u (by simpa using e)
theorem dpAll_txts : ∀ {vs : List V} {ds : List PyData}, DpAll K H vs ds → ds.all isFieldName = true → vs = (txts ds).map V.str ∧ (txts ds).length = ds.length
  | _, _, .nil, _ => ⟨rfl, rfl⟩
  | _, _, .cons (d := d) a b, h => by
    rw [List.all_cons, Bool.and_eq_true] at h
    obtain ⟨e, l⟩ := dpAll_txts b h.2
    cases d with
    | str x =>
      cases a
      rw [e]
      exact ⟨rfl, by simp [txts, l]⟩
    | _ => exact absurd h.1 (by simp [isFieldName, isWordN])
/-- a list or tuple as data: its things -/
theorem Dq.seq {v : V} {d : PyData} {ds : List PyData} (q : Dq K H v d) (e : seqOf d = some ds) :
    ∃ (a : Addr) (vs : List V), v = .ref a ∧ ((SqL K H a vs ∧ d = .list ds) ∨ (SqT K H a vs ∧ d = .tuple ds)) ∧ DpAll K H vs ds ∧ ∀ x ∈ ds, SeqAt.shaped x = true := by
  cases d <;> cases e
  · cases q with
    | dat q sh =>
      cases q with
      | lst s a => exact ⟨_, _, rfl, .inl ⟨s, rfl⟩, a, shaped_item sh⟩
  · cases q with
    | dat q sh =>
      cases q with
      | tup s a => exact ⟨_, _, rfl, .inr ⟨s, rfl⟩, a, shaped_item (by rw [← shaped_tup]; exact sh)⟩
end
end Wp
set_option Elab.async false
set_option linter.all false
set_option maxRecDepth 100000
set_option maxHeartbeats 4000000
namespace Wp
open PySem L2
theorem boot_ttuple : bootBuiltins "tuple" = some (.type "tuple") := by decide +kernel
theorem range_map {α β : Type} (g : α → β) (d : α) (xs : List α) : (List.range xs.length).map (fun j => g (xs.getD j d)) = xs.map g := by
  apply List.ext_getElem
  · simp
  · intro j h1 h2
    simp at h1
    simp [h1]
theorem kit_seq {K : PySem.W.Frag} (d : PyData) : PySem.W.kitAny K (.type (tyN d)) [.type "list", .type "tuple"] = some (isLst d || isTup d) := by
  refine kitAny_cons (kit_list d) (fun h => ?_) (fun h => by rw [h]; rfl)
  rw [h, Bool.false_or]
  refine kitAny_cons (kit_tuple d) (fun h => ?_) (fun h => h)
  rw [h]
  rfl
theorem inV_txt (n : Str) (xs : List Str) : inV (.str n) (xs.map V.str) = xs.contains n := by
  induction xs with
  | nil => rfl
  | cons x xs ih =>
    have e : inV (.str n) (V.str x :: xs.map V.str) = (eqV (.str x) (.str n) || inV (.str n) (xs.map V.str)) := rfl
    rw [List.map_cons, e, ih, List.contains_cons]
    show ((x == n) || _) = ((n == x) || _)
    rw [str_beq_decide, str_beq_decide]
    congr 1
    by_cases z : x = n
    · simp [z]
    · rw [decide_eq_false z, decide_eq_false fun q => z q.symm]
section
variable {P : Program} {w : World} {K : PySem.W.Frag} {mg : Str → Option Value} {base : Heap}
abbrev sWas : Stmt := top 23
def spWas (K : PySem.W.Frag) : Sp := fun vs H Q _ => ∃ (n : Str) (v : V) (d : PyData), vs = [.str n, v] ∧ Dq K H v d ∧ ShrtS d ∧ ∀ H', Same H H' → Q (.bl (wasRight n d)) H'
theorem scWas : FnScope ["name", "was", "former"] ["name", "was"] (defScope sWas) := ⟨rfl, rfl, rfl, by decide +kernel, rfl, by decide +kernel, by decide +kernel⟩
theorem ok_was {f f1 f2 : Addr} {fd fd1 fd2 : FuncData} (F : Fun K "_is_was" "_is_was" sWas f fd) (B : Bn mg) (C : Cn mg) (N : Known P w K mg base CX0 2 "is_field_name" ["value"] (spIsField K) f1 fd1)
    (D : Known P w K mg base CX0 1 "are_different" ["names"] (spDiff K) f2 fd2) : FnOk P w K mg base CX0 3 f fd ["name", "was"] (spWas K) := by
  refine F.ok scWas (fun vs H Q E h => ?_) (fun cdv A outer s H vs Q E hr h => ?_)
  · obtain ⟨n, v, d, rfl, _⟩ := h
    rfl
  · obtain ⟨n, v, d, rfl, q, sh, k⟩ := h
    refine ⟨_, pss_cons (ps_if (PW.pt (pw_or (pt_not (pt_val (pe_callB call_isiT (by rfl) B.isi boot_isi (pa_cons (pv 1) (pa_cons (pe_tup (pa_cons (pe_bltn (v := .ty "list") (by rfl) B.list PyProof.Rows.boot_list rfl) (pa_cons (pe_bltn (v := .ty "tuple") (by rfl) B.tuple boot_ttuple rfl) pa_nil))) pa_nil)))))
          (pw_or1 (pt_cmpR op_gt (pe_callB call_len_seq (by rfl) B.len PySem.boot_len (pa_cons (pv 1) pa_nil)) (pe_cn (by rfl) C.old) (nomark _)))))
        (pss_one (ps_ret pe_bl)) pss_nil)
      (pss_cons (ps_if (pt_not (pt_val (pe_callB (cr_all rfl) (by rfl) B.all boot_all (pa_cons (pe_lc (own := [("former", 2)]) (g := gName 2) (tt := tYes) rfl scWas.nd (pi_seqV (i := 1) (pv 1))
          (blkOk_by (N := ["name", "was", "former"]) (sc := defScope sWas) (by decide +kernel)) (fun _ _ _ _ _ => pg_name (i := 2) scWas.nd rfl (Or.inl rfl)) (fun _ _ _ _ _ => pts_nil)
          (fun _ _ _ _ _ => pe_call N.ok hr rfl N.mg N.kp N.bi .nil pass0 (pa_cons (pv 2) pa_nil))) pa_nil))))
        (pss_one (ps_ret pe_bl)) pss_nil)
      (pss_one (ps_ret (pe_and (pe_cmpR op_notIn_seq (pv 0) (pv 1) (by rfl)) (pe_one (pe_call D.ok (hr.mono (by decide)) rfl D.mg D.kp D.bi .nil pass0 (pa_cons (pv 1) pa_nil))))))), ?_⟩
    refine ⟨_, rfl, by show 2 ≤ sizeLine; decide, fun T hT => ?_⟩
    have s1 : Same H (upd H T (.tup [.ty "list", .ty "tuple"])) := same_new hT
    have q1 := q.same s1
    refine ⟨v, T, [.ty "list", .ty "tuple"], _, [.type "list", .type "tuple"], _, rfl, upd_same, .cons (.ty _) (.cons (.ty _) .nil), q1.ty, kit_seq d, _, rfl, ?_⟩
    cases e : seqOf d with
    | none =>
      have e1 : (isLst d || isTup d) = false := by cases d <;> first | rfl | cases e
      have e2 : wasRight n d = false := by
        simp only [wasRight, e]
      rw [e1]
      have r := k _ s1
      rw [e2] at r
      exact r
    | some ds =>
      have e1 : (isLst d || isTup d) = true := by cases d <;> first | rfl | cases e
      rw [e1]
      obtain ⟨a, vs, rfl, sq, da, shp⟩ := q1.seq e
      have eW : wasRight n d = (decide (ds.length ≤ 2) && ds.all isFieldName && !(txts ds).contains n && decide (txts ds).Nodup) := by
        simp only [wasRight, e]
      obtain ⟨len, get⟩ := dpAll_get da
      have sq2 : SqL K (upd H T (.tup [.ty "list", .ty "tuple"])) a vs ∨ SqT K (upd H T (.tup [.ty "list", .ty "tuple"])) a vs := sq.imp And.left And.left
      refine ⟨_, rfl, a, vs, rfl, sq2, _, _, rfl, rfl, _, rfl, ?_⟩
      cases e2 : decide (2 < (vs.length : Int)) with
      | true =>
        have r := k _ s1
        have e3 : ¬ ds.length ≤ 2 := by
          have := of_decide_eq_true e2
          omega
        rw [eW, decide_eq_false e3, Bool.false_and, Bool.false_and, Bool.false_and] at r
        exact r
      | false =>
        have e3 : ds.length ≤ 2 := by
          have := of_decide_eq_false e2
          omega
        refine ⟨a, vs, rfl, sq2, fun J G w hG D0 hD0 => ?_⟩
        refine lc_grow (f := fun j => V.bl (isFieldName (ds.getD j .none))) w (by omega) (fun H' z => hG H' (.of z)) hD0 ?_ ?_
        · intro j x H1 R hx sm k1
          obtain ⟨d1, g1, g2⟩ := get j x hx
          have m1 : d1 ∈ ds := List.mem_of_getElem? g1
          refine ⟨_, rfl, x, d1, rfl, .dat (dp_same sm g2) (shp _ m1), sh ds e _ m1, fun H2 s2 => ?_⟩
          have r := k1 H2 s2
          rw [List.getD_eq_getElem?_getD, g1] at r
          exact r
        · intro H' s2 hL
          have s3 : Same H H' := s1.trans s2
          rw [show (List.range vs.length).map (fun j => V.bl (isFieldName (ds.getD j .none))) = (ds.map isFieldName).map V.bl by rw [len, List.map_map, ← range_map (V.bl ∘ isFieldName) .none ds]; rfl] at hL
          refine ⟨D0, ds.map isFieldName, rfl, SqL.of hL, _, rfl, ?_⟩
          have e4 : (ds.map isFieldName).all id = ds.all isFieldName := by simp [List.all_map, Function.comp_def]
          rw [e4]
          cases e5 : ds.all isFieldName with
          | false =>
            have r := k _ s3
            rw [eW, e5, Bool.and_false, Bool.false_and, Bool.false_and] at r
            exact r
          | true =>
            obtain ⟨e6, e7⟩ := dpAll_txts da e5
            subst e6
            have sq3 : SqL K H' a ((txts ds).map V.str) ∨ SqT K H' a ((txts ds).map V.str) := sq2.imp (sqL_same s2) (sqT_same s2)
            refine ⟨_, rfl, _, rfl, a, _, rfl, sq3, rfl, by simp [flatV], ?_⟩
            refine ⟨_, rfl, ?_⟩
            rw [if_pos rfl, inV_txt]
            cases e8 : (txts ds).contains n with
            | true =>
              have r := k _ s3
              rw [eW, e8, Bool.not_true, Bool.and_false, Bool.false_and] at r
              exact r
            | false =>
              refine ⟨_, rfl, a, txts ds, rfl, ⟨sq3, by omega⟩, ?_⟩
              have r := k _ s3
              rw [eW, e5, e8, decide_eq_true e3] at r
              exact r
end
end Wp
set_option Elab.async false
set_option linter.all false
set_option maxRecDepth 100000
set_option maxHeartbeats 4000000
namespace Wp
open PySem L2 PySem.Spec PyProof.Rows
/-! ## defs that are called where no repr is on its way: the promise of a def may then lean on it -/
structure GOk (P : Program) (w : World) (K : PySem.W.Frag) (mg : Str → Option Value) (bs : Heap)
    (CX : CXT) (k : Nat) (f : Addr) (fd : FuncData) (ps : List Str) (sp : Sp) : Prop where
  len : ∀ ys H Q E, sp ys H Q E → ys.length = ps.length
  run : ∀ (A : Around) (out : List Env) (s : Shared) (H : Hp) (ar : Args) (us : List Value) (ys : List V) (Q : VK) (E : XK),
    A.guards = some [] → Room k A → Env0 P w K mg bs A out s H → BindsTo s fd ar (ps.zip us) →
    Vals ys us → sp ys H Q E → codeAny (model P w) A (.call (.ref f) ar) (CR CX out P w H s Q E) s
theorem gok_of {CX : CXT} {P : Program} {w : World} {K : PySem.W.Frag} {mg : Str → Option Value} {bs : Heap} {k : Nat} {f : Addr} {fd : FuncData} {x qual : Str} {st : Stmt} {N ps : List Str} {sp : Sp}
    (F : Fun K x qual st f fd) (S : FnScope N ps (defScope st)) (len : ∀ ys H Q E, sp ys H Q E → ys.length = ps.length)
    (body : ∀ (cd : Value) (A : Around) (out : List Env) (s : Shared) (H : Hp) (ys : List V) (Q : VK) (E : XK),
      (A.deeper (envOfC qual (defScope st) s.heap.objs.size f cd)).guards = some [] → Room k (A.deeper (envOfC qual (defScope st) s.heap.objs.size f cd)) → sp ys H Q E →
      ∃ t, PSs (cxOf CX P w K mg bs N qual (defScope st) f cd A out s H E) (defBody st) t ∧
        t { nx := fun _ H' => Q .non H', rt := Q } (start N ys) H) : GOk P w K mg bs CX (k + 1) f fd ps sp := by
  obtain ⟨oc, od, kV, doc, pm, an, cd, ct, osl, rfl, lk, hcd⟩ := F.ex
  constructor
  · exact len
  · intro A out s H ar us ys Q E hG hR e0 hB hV hP
    have hLen := len _ _ _ _ hP
    have inK : K.In s.heap := e0.mod.kin.keeps fun b o e => (e0.bs b o e).1
    have noL : s.heap.NoLimit := e0.mod.nolimit.keeps fun b o e => (e0.bs b o e).1
    have kinds : ∀ y ∈ ps.zip us, (defScope st).names.lookup y.1 = some .local ∨
        ((defScope st).names.lookup y.1 = some .cell ∧ ((cellsFrom (s.heap.objs.size + 1) (defScope st).names []).lookup y.1).isSome = true) := by
      intro y hy
      obtain ⟨n, v⟩ := y
      cases S.par n (List.of_mem_zip hy).1 with
      | inl z => exact Or.inl z
      | inr z => exact Or.inr ⟨z, PySem.W.cellsFrom_some _ _ _ (Or.inl z)⟩
    apply codeAny_call_function hR.depth (inK _ _ lk) rfl S.co S.gen rfl (PySem.W.codeRec_of inK hcd)
    apply hB
    refine wpAny_newFunctionEnv_cells S.kind kinds ?_
    intro env ee s1 hin
    subst ee
    refine ⟨noL.keeps hin.toInCall.keep, ?_⟩
    apply codeAny_func
    obtain ⟨t, ht, hq⟩ := body cd A out s H ys Q E hG (hR.deeper _) hP
    have J : Inv (cxOf CX P w K mg bs N qual (defScope st) f cd A out s H E) [] (start N ys) H s1 := inv_start S hR.hd e0 hLen hV hin
    refine wpAny_mono (ht.run [] s1 (start N ys) H _ J hq) ?_ (fun _ _ z => z)
    intro fl s2 hs
    cases fl with
    | ret u =>
      obtain ⟨v, σ2, H2, J2, rv, q⟩ := hs
      exact ⟨v, H2, J2.os, J2.bare, J2.base, J2.hok, rv, q⟩
    | next =>
      obtain ⟨σ2, H2, J2, q⟩ := hs
      exact ⟨V.non, H2, J2.os, J2.bare, J2.base, J2.hok, rfl, q⟩
    | brk =>
      obtain ⟨_, _, _, q⟩ := hs
      exact q.elim
    | cont =>
      obtain ⟨_, _, _, q⟩ := hs
      exact q.elim
section
variable {X : Cx} {CX : CXT} {k : Nat} {f : Addr} {fd : FuncData} {ps : List Str} {sp : Sp} {E : XK} {x : Str} {p pos : Pos} {e : Expr} {es : List Expr} {t : TA}
/-- f(e, ..) of such a def -/
theorem pe_callG (hG : X.A.guards = some []) (F : GOk X.prog X.w X.K X.mg X.base CX k f fd ps sp) (hr : Room k X.A) (hg : Gl X x) (hm : X.mg x = some (.ref f)) (hk : PySem.W.keepIn X.K (.ref f) = true)
    (hb : Binds X.K fd ps []) (hx : Passes CX X E) (ha : PA X (e :: es) t) (hdb : (x == ("__debug__" : Str)) = false := by decide)
    (he : starEach (e :: es) X.env = (false, eval e X.env) :: starEach es X.env := by rfl) (hpl : (backTo pos (starEach es X.env)).any (·.1) = false := by rfl) :
    PE X (.Call (.Name x p) (e :: es) [] pos) (tCall sp [] E t) := by
  constructor
  intro pins s σ H Q I h
  apply wpAny_Call_Name_kw
  refine ld_glob I hg hm ?_ hdb
  refine PySem.W.callWith_K (h₀ := X.base) I.ok.mod.kin hk ?_ he hpl
  refine thn (ha.run pos pins s σ H _ I h) ?_
  intro us s1 hh
  obtain ⟨ys, H1, I1, rv, q⟩ := hh
  refine ⟨I1.kIn, ?_⟩
  rw [List.append_nil] at q
  have hl : us.length = ps.length := by
    rw [← rv.length]
    exact F.len _ _ _ _ q
  have hb1 := hb s1 us I1.kIn (by simpa using hl)
  rw [List.append_nil] at hb1
  apply wpAny_call
  refine codeAny_mono (F.run X.A X.stack s1 H1 ⟨us, []⟩ us ys Q E hG hr I1.env0 hb1 rv q) ?_
  intro r s2 hq
  cases r with
  | error z => exact hx pins σ H1 s1 z s2 I1 hq
  | ok fl =>
    cases fl with
    | ret u => exact I1.after hq
    | next => exact hq.elim
    | brk => exact hq.elim
    | cont => exact hq.elim
/-- repr(x) of data -/
def rRepr (K : PySem.W.Frag) : List V → Hp → VK → Prop := fun xs H Q => ∃ (a : Addr) (d : PyData), xs = [.ref a] ∧ Dp K H (.ref a) d ∧ d.showable = true ∧ d.hasDict = false ∧ d.depth ≤ 10 ∧ d.shown.length ≤ sizeLine ∧ Q (.str d.shown) H
theorem call_repr (hG : X.A.guards = some []) (hu : X.A.units + 20 < cLine) : CallR X (.builtin "repr") (rRepr X.K) := by
  intro pins s σ H xs us Q I r h
  obtain ⟨a, d, rfl, hd, h1, h2, h3, h4, q⟩ := h
  obtain ⟨u, rfl, rx⟩ := vals1 r
  cases (show u = Value.ref a from rx)
  obtain ⟨as, rd⟩ := Dp.reads I d _ _ hd rfl
  refine PySem.repr_of_reads' rd h1 (PyData.noDict_hsm h2) hG (by omega) (fun _ _ e => e) ?_ h4
  intro h' u tk hk
  exact ⟨.str d.shown, H, I.kept hk, ⟨_, rfl⟩, q⟩
end
/-! ## the law's own call, for a promise that leans on the empty list of guards -/
theorem law_start {P : Program} {w : World} {K : PySem.W.Frag} {mg mb : Str → Option Value} {CX : CXT} {k : Nat} {fa a : Addr} {fd : FuncData} {x : Str} {sp : Sp} {s0 : Shared} {vs : List Value} {ns : List Int}
    (hK : K.In s0.heap) (hN : s0.heap.Ns mainGlobals mg) (hB : s0.heap.Ns builtinsNs mb) (hBB : ∀ y : Str, y ≠ "__name__" → mb y = bootBuiltins y) (hL : s0.heap.NoLimit) (hg : s0.gens = #[])
    (hA : s0.heap.get? a = some { cls := .type "list", data := .seq vs.toArray }) (hI : IntsAre vs ns) (hz : ns.length ≤ sizeLine) (hR : Room k callerA)
    (F : ∀ bs : Heap, K.In bs → bs.Ns mainGlobals mg → GOk P w K mg bs CX k fa fd [x] sp) (hbind : ∀ (s : Shared) (u : Value), BindsTo s fd ⟨[u], []⟩ [(x, u)])
    (hsp : ∀ H : Hp, Only H → SqL K H a (ns.map V.int) → sp [.ref a] H (fun v _ => v = .bl true) fun _ _ _ => False)
    (hCX : ∀ H e s', CX [] H s0 (fun _ _ _ => False) e s' → False) :
    codeAny (model P w) callerA (.call (.ref fa) ⟨[.ref a], []⟩) (fun r s' => r = .ok (.ret (.bool true)) ∧ OldK s0.heap s'.heap ∧ s'.os = s0.os ∧ AllBare s'.gens) s0 := by
  have vI := vals_ints hI
  have lI := hI.length
  have main : ∀ H : Hp, Only H → SqL K H a (ns.map V.int) → HOk P w H s0.heap → (∀ b, H b ≠ none → b = a) → (H a ≠ none → K.lookup a = none) →
      codeAny (model P w) callerA (.call (.ref fa) ⟨[.ref a], []⟩)
        (fun r s' => r = .ok (.ret (.bool true)) ∧ OldK s0.heap s'.heap ∧ s'.os = s0.os ∧ AllBare s'.gens) s0 := by
    intro H oH sH okH onA outK
    have low : ∀ {b : Addr} {o : Obj}, s0.heap.get? b = some o → H b = none → (hidT s0.heap H).get? b = some o := fun e n => hidT_get e n
    have free : ∀ {b : Addr} {o : Obj} {es : Array DictEntry} {ep : Nat}, s0.heap.get? b = some o → o.data = .dict es ep → H b = none := by
      intro b o es ep e d
      cases q : H b with
      | none => rfl
      | some u =>
        have eb : b = a := onA b (by rw [q]; simp)
        rw [eb, hA] at e
        cases e
        cases (show Data.seq vs.toArray _ = Data.dict es ep from d)
    have nsOf : ∀ {b : Addr} {m : Str → Option Value}, s0.heap.Ns b m → (hidT s0.heap H).Ns b m := by
      intro b m hn
      obtain ⟨o, es, ep, e, d, r⟩ := hn
      exact ⟨o, es, ep, low e (free e d), d, r⟩
    have inB : K.In (hidT s0.heap H) := by
      intro b o e
      refine low (hK b o e) ?_
      cases q : H b with
      | none => rfl
      | some u =>
        have eb : b = a := onA b (by rw [q]; simp)
        rw [eb, outK (by rw [← eb, q]; simp)] at e
        cases e
    have hLim : (hidT s0.heap H).NoLimit := by
      obtain ⟨mc, z1, z2⟩ := hL
      exact ⟨mc, nsOf z1, z2⟩
    have md : Mod K mg (hidT s0.heap H) := ⟨inB, nsOf hN, ⟨mb, nsOf hB, hBB⟩, hLim⟩
    have e0 : Env0 P w K mg (hidT s0.heap H) callerA [] s0 H := {
      frames := rfl
      mod := md
      bs := fun b o e => of_hidT e
      bsz := Nat.le_of_eq (hidT_size _ _)
      funs := trivial
      frf := fun b hb => by cases (show b ∈ ([] : List Addr) from hb)
      hok := okH
      bare := .of_eq hg }
    have run := (F _ inB (nsOf hN)).run callerA [] s0 H ⟨[.ref a], []⟩ [.ref a] [.ref a] _ _ rfl hR e0 (hbind s0 (.ref a)) (.cons rfl .nil) (hsp H oH sH)
    refine codeAny_mono run ?_
    intro r s' h
    cases r with
    | error e => exact (hCX H e s' h).elim
    | ok fl =>
      cases fl with
      | ret u =>
        obtain ⟨v, H', os, bare, un, okH', rv, q⟩ := h
        have ev : v = .bl true := q
        rw [ev] at rv
        have eu : u = Value.bool true := rv
        rw [eu]
        refine ⟨rfl, OldK.of_keep ?_, os, bare⟩
        intro b o e
        cases q : H b with
        | none => exact un.keep b o e q (fun z => by cases (show b ∈ ([] : List Addr) from z)) (fun z => by cases z)
        | some z =>
          cases oH b with
          | inl y =>
            rw [q] at y
            cases y
          | inr y =>
            obtain ⟨ob, xs, y⟩ := y
            have y2 := (okH' b _ (un.frzs b ob _ y)).1
            have y1 := (okH b _ y).1
            rw [e] at y1
            cases y1
            exact y2
      | next => exact h.elim
      | brk => exact h.elim
      | cont => exact h.elim
  cases hk : K.lookup a with
  | some o =>
    have e := hK a o hk
    rw [hA] at e
    cases e
    refine main (fun _ => none) (fun _ => .inl rfl) (.inr ⟨_, vs.toArray, _, hk, rfl, rfl, rfl, ?_, by simpa using vI⟩) ?_ (fun b z => absurd rfl z) fun z => absurd rfl z
    · rw [List.size_toArray, lI]
      exact hz
    · intro b u z
      cases (show (none : Option HO) = some u from z)
  | none =>
    let ob : Obj := { cls := .type "list", data := .seq vs.toArray }
    refine main (fun b => if b = a then some (.frz ob (.lst (ns.map V.int))) else none) ?_ (.inl (.inr ⟨ob, if_pos rfl⟩)) ?_ ?_ fun _ => hk
    · intro b
      by_cases hb : b = a
      · exact .inr ⟨ob, _, if_pos hb⟩
      · exact .inl (if_neg hb)
    · intro b u z
      by_cases hb : b = a
      · have z2 := (if_pos hb).symm.trans z
        cases z2
        subst hb
        refine ⟨hA, ?_, vs, _, vI, hA⟩
        rw [List.length_map]
        exact hz
      · have z2 := (if_neg hb).symm.trans z
        cases z2
    · intro b z
      by_cases hb : b = a
      · exact hb
      · exact absurd (if_neg hb) z
theorem walkG {l : PySem.W.OpenLaw} {n k : Nat} {q : Program} {loose : List Str} {XP : (Str → Option Value) → Heap → Prop} {YP : World → Heap → Prop} {d : DefRec} {K : Params → PySem.W.Frag} {sp : PySem.W.Frag → Sp} {x : Str}
    (hn : l.most = some n) (hn2 : n ≤ sizeLine) (hdf : d.params.defaults = []) (hr : Room k callerA) (hY : ∀ (w : World) (h : Heap), YP w h → (K w.params).In h)
    (F : ∀ (w : World) (mg : Str → Option Value) (fa : Addr) (h : Heap), (K w.params).In h → h.Ns mainGlobals mg → mg d.name = some (.ref fa) →
      ∃ fd : FuncData, (∀ (s : Shared) (u : Value), BindsTo s fd ⟨[u], []⟩ [(x, u)]) ∧
        ∀ bs : Heap, (K w.params).In bs → bs.Ns mainGlobals mg → GOk l.prog w (K w.params) mg bs CX0 k fa fd [x] (sp (K w.params)))
    (hsp : ∀ (K : PySem.W.Frag) (H : Hp) (a : Addr) (ns : List Int), ns.length ≤ n → Only H → SqL K H a (ns.map V.int) → sp K [.ref a] H (fun v _ => v = .bl true) fun _ _ _ => False) :
    PySem.W.WalkO q loose XP YP l.row.toRowW d [] (fun f vs => PySem.call f vs) := by
  apply Att.attach_call hn hdf
  intro w s₀ s₁ mg mb fa o pm cd doc a vs ns G Y ho hd hcd hmg hobj hints hlen hg
  have inK := hY w _ Y
  obtain ⟨fd, hb, hF⟩ := F w mg fa _ inK G.T.g hmg
  exact law_start inK G.T.g G.T.b G.T.builtins G.T.nolimit hg hobj hints (Nat.le_trans hlen hn2) hr hF hb (fun H hO hS => hsp _ H a ns hlen hO hS) fun H e s' z => z.elim
/-! ## exceptions as values -/
/-- C(e, ..) as a value, by the promise of C's own __init__ -/
def tMkx (C : Addr) (sp : Sp) (ta : TA) : TE := fun σ H Q => ta σ H fun vs H1 => vs.length ≤ 1000 ∧ ∀ a, H1 a = none →
  sp (.ref a :: vs) (upd H1 a (exo a C none)) (fun v H2 => v = .non ∧ Q (.ref a) H2) (fun _ _ _ => False)
section
variable {X : Cx} {CX : CXT} {x : Str} {C fI : Addr} {k : Nat} {fd : FuncData} {ps : List Str} {sp : Sp} {e : Expr} {es : List Expr} {ta : TA} {p pos : Pos}
theorem run_mkx {pins : List (Addr × Obj)} {σ : L2.St} {H : Hp} {s : Shared} {Q : VK} {us : List Value} {vs : List V} (T : OexC X.K C) (iC : PySem.W.findIn X.K (.ref C) "__init__" = some (some (.ref fI)))
    (tI : PySem.W.typeIn X.K (.ref fI) = some (.type "function")) (FI : FnOk X.prog X.w X.K X.mg X.base CX k fI fd ps sp) (hr : Room (k + 1) X.A) (hb : Binds X.K fd ps []) (hx : Passes CX X (fun _ _ _ => False))
    (I : Inv X pins σ H s) (r : Vals vs us) (hz : vs.length ≤ 1000)
    (h : ∀ a, H a = none → sp (.ref a :: vs) (upd H a (exo a C none)) (fun v H2 => v = .non ∧ Q (.ref a) H2) (fun _ _ _ => False)) :
    wpAny (model X.prog X.w) X.A (call (.ref C) us) (EP X pins σ Q) X.xe s := by
  obtain ⟨nm, q, N, bs, bm, sn, sub, ab, col, dd, k0, k1, k2, k3, k5, hC, hbm⟩ := T.cls
  obtain ⟨hp, g, dr, tk, os⟩ := s
  have hsz : hp.objs.size ≤ hp.objs.size + 1 := Nat.le_succ _
  have hq := h (hp.objs.size + 1) (I.hok.fresh hsz)
  have keep : ∀ b o, hp.get? b = some o → ((hp.push (PySem.W.kdv_tup us)).push (PySem.HandSPX.excO C hp.objs.size)).get? b = some o :=
    fun b o z => Heap.get?_push_of_some _ (Heap.get?_push_of_some _ z)
  have there : ((hp.push (PySem.W.kdv_tup us)).push (PySem.HandSPX.excO C hp.objs.size)).get? (hp.objs.size + 1) = some (PySem.HandSPX.excO C hp.objs.size) := by heap_get
  have I2 := I.laid (t' := tk) (a := hp.objs.size + 1) (o := exo (hp.objs.size + 1) C none) keep hsz (exo_ok there)
  have r2 : Vals (V.ref (hp.objs.size + 1) :: vs) (Value.ref (hp.objs.size + 1) :: us) := .cons rfl r
  have hl : (Value.ref (hp.objs.size + 1) :: us).length = ps.length := by
    rw [← r2.length]
    exact FI.len _ _ _ _ hq
  have hus : us.length ≤ sizeLine := by
    rw [← r.length, sizeLine_eq]
    omega
  have b2 := hb ⟨(hp.push (PySem.W.kdv_tup us)).push (PySem.HandSPX.excO C hp.objs.size), g, dr, tk, os⟩ (Value.ref (hp.objs.size + 1) :: us) I2.kIn (by simpa using hl)
  rw [List.append_nil] at b2
  apply wpAny_call
  refine PySem.HandSPX.call_own F.excBase_ValueError (fun Y => PySem.HandSPX.refsVE_contains Y bm hbm) (I.kIn _ _ hC) (PySem.W.looks_findIn I.kIn iC) (fun self => PySem.W.bind_fn I.kIn self tI) hus ?_
  refine codeAny_mono (FI.run _ X.stack _ _ ⟨Value.ref (hp.objs.size + 1) :: us, []⟩ (Value.ref (hp.objs.size + 1) :: us) _ _ (fun _ _ _ => False) (hr.make C us []) (I2.env0.make C us []) b2 r2 hq) ?_
  intro y s2 hy
  cases y with
  | error er => exact hx pins σ _ _ er s2 I2 hy
  | ok fl =>
    cases fl with
    | ret u =>
      obtain ⟨v, H2, os2, bare2, un2, hok2, rv, ev, q2⟩ := hy
      rw [ev] at rv
      exact ⟨rv, I2.after ⟨.ref (hp.objs.size + 1), H2, os2, bare2, un2, hok2, rfl, q2⟩⟩
    | next => exact hy.elim
    | brk => exact hy.elim
    | cont => exact hy.elim
theorem pe_mkx (T : OexC X.K C) (iC : PySem.W.findIn X.K (.ref C) "__init__" = some (some (.ref fI))) (tI : PySem.W.typeIn X.K (.ref fI) = some (.type "function")) (FI : FnOk X.prog X.w X.K X.mg X.base CX k fI fd ps sp)
    (hr : Room (k + 1) X.A) (hb : Binds X.K fd ps []) (hx : Passes CX X (fun _ _ _ => False)) (hg : Gl X x) (hm : X.mg x = some (.ref C)) (ha : PA X (e :: es) ta)
    (hdb : (x == ("__debug__" : Str)) = false := by decide) (he : starEach (e :: es) X.env = (false, eval e X.env) :: starEach es X.env := by rfl) (hpl : (backTo pos (starEach es X.env)).any (·.1) = false := by rfl) :
    PE X (.Call (.Name x p) (e :: es) [] pos) (tMkx C sp ta) := by
  constructor
  intro pins s σ H Q I h
  apply wpAny_Call_Name_kw
  refine ld_glob I hg hm ?_ hdb
  refine PySem.W.callWith_K (h₀ := X.base) I.ok.mod.kin T.kC ?_ he hpl
  refine thn (ha.run pos pins s σ H _ I h) ?_
  intro us s1 hh
  obtain ⟨vs, H1, I1, rv, hz, q⟩ := hh
  exact ⟨I1.kIn, run_mkx T iC tI FI hr hb hx I1 rv hz q⟩
/-- C() of a class without an own __init__ -/
theorem pe_mkx0 {bmB : List Value} {B newId initId : String} (FB : ExcBaseFacts B newId initId bmB) (q : PySem.W.excIn X.K C bmB newId = true) (gC : X.mg x = some (.ref C)) (kC : PySem.W.keepIn X.K (.ref C) = true) (hg : Gl X x)
    (hdb : (x == ("__debug__" : Str)) = false := by decide) : PE X (.Call (.Name x p) [] [] pos) (fun _ H Q => ∀ a, H a = none → Q (.ref a) (upd H a (exo a C none))) := by
  constructor
  intro pins s σ H Q I h
  apply wpAny_Call_Name_kw
  refine ld_glob I hg gC ?_ hdb
  refine PySem.W.callWith_K0 I.kIn kC ?_
  obtain ⟨bm, N, nm, qn, bs, hdct, sn, sub, ab, col, dd, k0, k1, k2, k3, k5, mN, hC, hN, hni, T⟩ := exc_obj I.kIn q
  refine wpAny_call_exc_subT FB T hC hN hni (fun h' a hm => ?_) (by show 0 ≤ sizeLine; exact Nat.zero_le _)
  have hn := I.hok.gone hm.new
  obtain ⟨t, ht, _, _⟩ := hm.there
  exact ⟨.ref a, _, I.laidN hm.keeps hm.new hn (exo_ok ht), rfl, h a hn⟩
/-- e.f of an exception that is held as a value -/
def tXv (K : PySem.W.Frag) (f : Str) (te : TE) : TE := fun σ H Q => te σ H fun x H1 => ∃ (a C d : Addr) (fs : List (Str × V)) (v : V), x = .ref a ∧ ExcC K C ∧ PySem.W.findIn K (.ref C) f = some none ∧
  H1 a = some (exo a C (some d)) ∧ H1 d = some (exd d fs) ∧ fs.lookup f = some v ∧ Q v H1
theorem pe_xv {te : TE} {n : Str} (he : PE X e te) (hb : attributeBase e n X.env (eval e X.env) = eval e X.env := by rfl) : PE X (.Attribute e n pos) (tXv X.K n te) := by
  constructor
  intro pins s σ H Q I h
  refine attr_of hb (thn (he.run pins s σ H _ I h) ?_)
  intro u s1 hh
  obtain ⟨x, H1, I1, rx, a, C, d, fs, v, ex, T, hno, ea, ed, l, q⟩ := hh
  subst ex
  obtain rfl : u = Value.ref a := rx
  obtain ⟨t1, ho⟩ := exo_at I1.hok ea
  obtain ⟨mA, hns, hr⟩ := exd_at I1.hok ed
  obtain ⟨od, hod, hl⟩ := lookIn_ns hns
  obtain ⟨w', hw, rw'⟩ := RelO.some_of (v := v) (o := mA n) (by rw [← l]; exact hr n)
  have J : PySem.W.InstAt s1.heap a _ C (some od) := ⟨ho, rfl, rfl, hod⟩
  exact HandSPX.exc_get I1.kIn J T.hg T.hk T.hs (PySem.W.findObj_own T.hd hno rfl (by rw [hl, hw])) (handed_of rw') ⟨v, H1, I1.tok _, rw', q⟩
/-- isinstance(x, c), x such an exception (with its dict or without) -/
def rIsx (K : PySem.W.Frag) : List V → Hp → VK → Prop := fun xs H Q => ∃ (a C : Addr) (d : Option Addr) (c : V) (cv : Value) (b : Bool), xs = [.ref a, c] ∧ ClsV c cv ∧ ExcC K C ∧
  H a = some (exo a C d) ∧ (∀ dx, d = some dx → ∃ fs, H dx = some (exd dx fs)) ∧ PySem.W.kitOne K (.ref C) cv = some b ∧ Q (.bl b) H
theorem call_isx : CallR X (.builtin "isinstance") (rIsx X.K) := by
  intro pins s σ H xs us Q I r h
  obtain ⟨a, C, d, c, cv, b, rfl, kc, T, ea, ed, e, q⟩ := h
  obtain ⟨u1, u2, rfl, r1, r2⟩ := vals2 r
  cases (show u1 = Value.ref a from r1)
  have e2 := kc.eq r2
  subst e2
  obtain ⟨t1, ho⟩ := exo_at I.hok ea
  obtain ⟨cd, hcd, _⟩ := PySem.W.any_some T.hd
  have hcl : (PySem.W.clsIn X.K C).isSome = true := by rw [hcd]; rfl
  have fin : ∀ od, PySem.W.InstAt s.heap a { cls := .ref C, dict := d, data := .fields #[.ref t1, .none, .none, .none, .bool false, .none] } C od → wpAny (model X.prog X.w) X.A (call (.builtin "isinstance") [.ref a, u2]) (EP X pins σ Q) X.xe s :=
    fun od J => PySem.W.kia_one (PySem.W.kitx_exc hcl T.hg T.hk T.hs T.ha T.hn T.ht T.hm) I.kIn J e (fun z => nomatch z) fun tk => ⟨.bl b, H, I.tok tk, rfl, q⟩
  cases d with
  | none => exact fin none ⟨ho, rfl, rfl, trivial⟩
  | some dx =>
    obtain ⟨fs, hd⟩ := ed dx rfl
    obtain ⟨mA, hns, _⟩ := exd_at I.hok hd
    obtain ⟨od, hod, _⟩ := lookIn_ns hns
    exact fin (some od) ⟨ho, rfl, rfl, hod⟩
end
/-! ## the errors' own __init__, and what they leave -/
/-- behind C(v, ..): the error at a, its dict at d -/
def exH (H : Hp) (a C d : Addr) (fs : List (Str × V)) : Hp := upd (upd H d (exd d fs)) a (exo a C (some d))
theorem exH_a {H : Hp} {a C d : Addr} {fs : List (Str × V)} : exH H a C d fs a = some (exo a C (some d)) := upd_same
theorem exH_d {H : Hp} {a C d : Addr} {fs : List (Str × V)} (h : d ≠ a) : exH H a C d fs d = some (exd d fs) := by
  unfold exH
  rw [upd_ne h, upd_same]
theorem exH_ne {H : Hp} {a C d b : Addr} {fs : List (Str × V)} (h1 : b ≠ a) (h2 : b ≠ d) : exH H a C d fs b = H b := by
  unfold exH
  rw [upd_ne h1, upd_ne h2]
theorem exH_same {H : Hp} {a C d : Addr} {fs : List (Str × V)} (h1 : H a = none) (h2 : H d = none) : Same H (exH H a C d fs) := fun b o e => by
  rw [exH_ne (ne_of_none e h1) (ne_of_none e h2)]
  exact e
theorem exH_over {H : Hp} {a C d : Addr} {fs : List (Str × V)} {o : HO} : upd (upd (upd H a o) d (exd d fs)) a (exo a C (some d)) = exH H a C d fs := by
  funext b
  unfold exH
  by_cases h1 : b = a
  · rw [h1, upd_same, upd_same]
  · rw [upd_ne h1, upd_ne h1]
    by_cases h2 : b = d
    · rw [h2, upd_same, upd_same]
    · rw [upd_ne h2, upd_ne h2, upd_ne h1]
def spI1 (C : Addr) (f : Str) : Sp := fun vs H Q _ => ∃ (a : Addr) (v : V), vs = [.ref a, v] ∧ H a = some (exo a C none) ∧ ∀ dx, H dx = none → dx ≠ a → Q .non (upd (upd H dx (exd dx [(f, v)])) a (exo a C (some dx)))
def spI2 (C : Addr) (f g : Str) : Sp := fun vs H Q _ => ∃ (a : Addr) (v y : V), vs = [.ref a, v, y] ∧ H a = some (exo a C none) ∧ ∀ dx, H dx = none → dx ≠ a → Q .non (upd (upd H dx (exd dx [(g, y), (f, v)])) a (exo a C (some dx)))
section
variable {P : Program} {w : World} {K : PySem.W.Frag} {mg : Str → Option Value} {base : Heap}
theorem ok_init1 {st : Stmt} {q f : Str} {C fa : Addr} {fd : FuncData} {p1 p2 p3 p4 : Pos} (F : Fun K "__init__" q st fa fd) (hb : defBody st = [.Assign [.Attribute (.Name "self" p1) f p2] (.Name f p3) p4])
    (S : FnScope ["self", f] ["self", f] (defScope st)) (hs : (defScope st).names.lookup ("self" : Str) = some NameKind.local) (hl : (defScope st).names.lookup f = some NameKind.local) (hd : (f == ("__debug__" : Str)) = false) (hc : (f == ("__classdict__" : Str)) = false)
    (T : OexC K C) (hno : PySem.W.findIn K (.ref C) f = some none) : FnOk P w K mg base CX0 1 fa fd ["self", f] (spI1 C f) := by
  refine F.ok S (fun vs H Q E h => ?_) (fun cdv A outer s H vs Q E hr h => ?_)
  · obtain ⟨a, v, rfl, _⟩ := h
    rfl
  · obtain ⟨a, v, rfl, ea, k⟩ := h
    rw [hb]
    refine ⟨_, pss_one (ps_ost (pv 0 rfl (.inl hs)) (pv 1 rfl (.inl hl) hd hc)), ?_⟩
    exact ⟨_, rfl, _, rfl, a, C, rfl, T, hno, .inl ⟨ea, fun dx n ne => k dx n ne⟩⟩
theorem ok_init2 {st : Stmt} {q f g : Str} {C fa : Addr} {fd : FuncData} {p1 p2 p3 p4 q1 q2 q3 q4 : Pos} (F : Fun K "__init__" q st fa fd)
    (hb : defBody st = [.Assign [.Attribute (.Name "self" p1) f p2] (.Name f p3) p4, .Assign [.Attribute (.Name "self" q1) g q2] (.Name g q3) q4])
    (S : FnScope ["self", f, g] ["self", f, g] (defScope st)) (hs : (defScope st).names.lookup ("self" : Str) = some NameKind.local) (hl : (defScope st).names.lookup f = some NameKind.local) (hl2 : (defScope st).names.lookup g = some NameKind.local)
    (hd : (f == ("__debug__" : Str)) = false) (hc : (f == ("__classdict__" : Str)) = false) (hd2 : (g == ("__debug__" : Str)) = false) (hc2 : (g == ("__classdict__" : Str)) = false)
    (T : OexC K C) (hno : PySem.W.findIn K (.ref C) f = some none) (hno2 : PySem.W.findIn K (.ref C) g = some none) : FnOk P w K mg base CX0 1 fa fd ["self", f, g] (spI2 C f g) := by
  refine F.ok S (fun vs H Q E h => ?_) (fun cdv A outer s H vs Q E hr h => ?_)
  · obtain ⟨a, v, y, rfl, _⟩ := h
    rfl
  · obtain ⟨a, v, y, rfl, ea, k⟩ := h
    rw [hb]
    refine ⟨_, pss_cons (ps_ost (pv 0 rfl (.inl hs)) (pv 1 rfl (.inl hl) hd hc)) (pss_one (ps_ost (pv 0 rfl (.inl hs)) (pv 2 rfl (.inl hl2) hd2 hc2))), ?_⟩
    refine ⟨_, rfl, _, rfl, a, C, rfl, T, hno, .inl ⟨ea, fun dx n ne => ?_⟩⟩
    refine ⟨_, rfl, _, rfl, a, C, rfl, T, hno2, .inr ⟨dx, [(f, v)], upd_same, ?_, (by show 1 ≤ 900; decide), ?_⟩⟩
    · rw [upd_ne ne, upd_same]
    · have e : upd (upd (upd H dx (exd dx [(f, v)])) a (exo a C (some dx))) dx (exd dx [(g, y), (f, v)]) = upd (upd H dx (exd dx [(g, y), (f, v)])) a (exo a C (some dx)) := by
        funext b
        by_cases h2 : b = dx
        · rw [h2, upd_same, upd_ne ne, upd_same]
        · rw [upd_ne h2]
          by_cases h1 : b = a
          · rw [h1, upd_same, upd_same]
          · rw [upd_ne h1, upd_ne h1, upd_ne h2, upd_ne h2]
      rw [e]
      exact k dx n ne
/-- a class of one field; of two; of none -/
structure Mk1 (P : Program) (w : World) (K : PySem.W.Frag) (mg : Str → Option Value) (base : Heap) (x f : Str) (C fI : Addr) (fd : FuncData) : Prop where
  T : OexC K C
  X : ExcC K C
  no : PySem.W.findIn K (.ref C) f = some none
  gC : mg x = some (.ref C)
  iC : PySem.W.findIn K (.ref C) "__init__" = some (some (.ref fI))
  tI : PySem.W.typeIn K (.ref fI) = some (.type "function")
  FI : FnOk P w K mg base CX0 1 fI fd ["self", f] (spI1 C f)
  bI : Binds K fd ["self", f] []
structure Mk2 (P : Program) (w : World) (K : PySem.W.Frag) (mg : Str → Option Value) (base : Heap) (x f g : Str) (C fI : Addr) (fd : FuncData) : Prop where
  T : OexC K C
  X : ExcC K C
  no : PySem.W.findIn K (.ref C) f = some none
  no2 : PySem.W.findIn K (.ref C) g = some none
  gC : mg x = some (.ref C)
  iC : PySem.W.findIn K (.ref C) "__init__" = some (some (.ref fI))
  tI : PySem.W.typeIn K (.ref fI) = some (.type "function")
  FI : FnOk P w K mg base CX0 1 fI fd ["self", f, g] (spI2 C f g)
  bI : Binds K fd ["self", f, g] []
structure Mk0 (K : PySem.W.Frag) (mg : Str → Option Value) (x : Str) (C : Addr) : Prop where
  X : ExcC K C
  q : PySem.W.excIn K C [.type "ValueError", .type "Exception", .type "BaseException", .type "object"] "ValueError.__new__" = true
  gC : mg x = some (.ref C)
  kC : PySem.W.keepIn K (.ref C) = true
end
theorem mkx1 {H : Hp} {C : Addr} {f : Str} {v : V} {Q : VK} (k : ∀ a d, H a = none → H d = none → d ≠ a → Q (.ref a) (exH H a C d [(f, v)])) :
    [v].length ≤ 1000 ∧ ∀ a, H a = none → spI1 C f (.ref a :: [v]) (upd H a (exo a C none)) (fun u H2 => u = .non ∧ Q (.ref a) H2) (fun _ _ _ => False) :=
  ⟨by simp, fun a na => ⟨a, v, rfl, upd_same, fun d nd ne => ⟨rfl, by
    rw [exH_over]
    refine k a d na ?_ ne
    rw [upd_ne ne] at nd
    exact nd⟩⟩⟩
theorem mkx2 {H : Hp} {C : Addr} {f g : Str} {v y : V} {Q : VK} (k : ∀ a d, H a = none → H d = none → d ≠ a → Q (.ref a) (exH H a C d [(g, y), (f, v)])) :
    [v, y].length ≤ 1000 ∧ ∀ a, H a = none → spI2 C f g (.ref a :: [v, y]) (upd H a (exo a C none)) (fun u H2 => u = .non ∧ Q (.ref a) H2) (fun _ _ _ => False) :=
  ⟨by simp, fun a na => ⟨a, v, y, rfl, upd_same, fun d nd ne => ⟨rfl, by
    rw [exH_over]
    refine k a d na ?_ ne
    rw [upd_ne ne] at nd
    exact nd⟩⟩⟩
section
variable {X : Cx} {x f g : Str} {C fI : Addr} {fd : FuncData} {e : Expr} {es : List Expr} {ta : TA} {p pos : Pos}
theorem pe_m1 (M : Mk1 X.prog X.w X.K X.mg X.base x f C fI fd) (hr : Room 2 X.A) (hg : Gl X x) (ha : PA X (e :: es) ta)
    (hdb : (x == ("__debug__" : Str)) = false := by decide) (he : starEach (e :: es) X.env = (false, eval e X.env) :: starEach es X.env := by rfl) (hpl : (backTo pos (starEach es X.env)).any (·.1) = false := by rfl) :
    PE X (.Call (.Name x p) (e :: es) [] pos) (tMkx C (spI1 C f) ta) := pe_mkx M.T M.iC M.tI M.FI hr M.bI pass0 hg M.gC ha hdb he hpl
theorem pe_m2 (M : Mk2 X.prog X.w X.K X.mg X.base x f g C fI fd) (hr : Room 2 X.A) (hg : Gl X x) (ha : PA X (e :: es) ta)
    (hdb : (x == ("__debug__" : Str)) = false := by decide) (he : starEach (e :: es) X.env = (false, eval e X.env) :: starEach es X.env := by rfl) (hpl : (backTo pos (starEach es X.env)).any (·.1) = false := by rfl) :
    PE X (.Call (.Name x p) (e :: es) [] pos) (tMkx C (spI2 C f g) ta) := pe_mkx M.T M.iC M.tI M.FI hr M.bI pass0 hg M.gC ha hdb he hpl
theorem pe_m0 (M : Mk0 X.K X.mg x C) (hg : Gl X x) (hdb : (x == ("__debug__" : Str)) = false := by decide) :
    PE X (.Call (.Name x p) [] [] pos) (fun _ H Q => ∀ a, H a = none → Q (.ref a) (upd H a (exo a C none))) := pe_mkx0 PySem.F.excBase_ValueError M.q M.gC M.kC hg hdb
end
/-- X() for a raise, X without an own __init__ -/
theorem pmk_ex0 {X : Cx} {x : Str} {C : Addr} {p pos : Pos} {bmB : List Value} {B newId initId : String} (FB : ExcBaseFacts B newId initId bmB) (q : PySem.W.excIn X.K C bmB newId = true) (gC : X.mg x = some (.ref C)) (kC : PySem.W.keepIn X.K (.ref C) = true)
    (r : Raises X (.ref C)) (hg : Gl X x) (hdb : (x == ("__debug__" : Str)) = false := by decide) : PMk X (.Call (.Name x p) [] [] pos) (fun _ H Q => Q (.ref C) none H) := by
  intro pins s σ H Q I h
  apply wpAny_Call_Name_kw
  refine ld_glob I hg gC ?_ hdb
  refine PySem.W.callWith_K0 I.kIn kC ?_
  obtain ⟨bm, N, nm, qn, bs, hdct, sn, sub, ab, col, dd, k0, k1, k2, k3, k5, mN, hC, hN, hni, T⟩ := exc_obj I.kIn q
  refine wpAny_call_exc_subT FB T hC hN hni (fun h' a hm => ?_) (by show 0 ≤ sizeLine; exact Nat.zero_le _)
  exact mk_of I hm r h (I.hok.gone hm.new)
/-- the heap behind a raised C(v, ..): its dict alone -/
def rsH (H : Hp) (d : Addr) (fs : List (Str × V)) : Hp := upd H d (.xd fs)
theorem rs_eq {H : Hp} {a C d : Addr} {fs : List (Str × V)} (na : H a = none) (ne : d ≠ a) : upd (L2.del (exH H a C d fs) a) d (.xd fs) = rsH H d fs := by
  funext b
  unfold rsH
  by_cases h : b = d
  · rw [h, upd_same, upd_same]
  · rw [upd_ne h, upd_ne h]
    by_cases h2 : b = a
    · rw [h2, L2.del_same, na]
    · rw [L2.del_ne h2, exH_ne h2 h]
theorem rs1 {H : Hp} {C : Addr} {f : Str} {v : V} {Q : XK} (k : ∀ d, H d = none → Q (.ref C) (some d) (rsH H d [(f, v)])) : [v].length ≤ 1000 ∧ ∀ a, H a = none → spI1 C f (.ref a :: ([v] ++ [])) (upd H a (exo a C none))
    (fun u H2 => u = .non ∧ ∃ (d : Addr) (fs : List (Str × V)), H2 a = some (exo a C (some d)) ∧ H2 d = some (exd d fs) ∧ H d = none ∧ Q (.ref C) (some d) (upd (L2.del H2 a) d (.xd fs))) (fun _ _ _ => False) :=
  ⟨by simp, fun a na => ⟨a, v, rfl, upd_same, fun d nd ne => ⟨rfl, by
    rw [upd_ne ne] at nd
    rw [exH_over]
    refine ⟨d, _, exH_a, exH_d ne, nd, ?_⟩
    rw [rs_eq na ne]
    exact k d nd⟩⟩⟩
theorem rs2 {H : Hp} {C : Addr} {f g : Str} {v y : V} {Q : XK} (k : ∀ d, H d = none → Q (.ref C) (some d) (rsH H d [(g, y), (f, v)])) : [v, y].length ≤ 1000 ∧ ∀ a, H a = none → spI2 C f g (.ref a :: ([v, y] ++ [])) (upd H a (exo a C none))
    (fun u H2 => u = .non ∧ ∃ (d : Addr) (fs : List (Str × V)), H2 a = some (exo a C (some d)) ∧ H2 d = some (exd d fs) ∧ H d = none ∧ Q (.ref C) (some d) (upd (L2.del H2 a) d (.xd fs))) (fun _ _ _ => False) :=
  ⟨by simp, fun a na => ⟨a, v, y, rfl, upd_same, fun d nd ne => ⟨rfl, by
    rw [upd_ne ne] at nd
    rw [exH_over]
    refine ⟨d, _, exH_a, exH_d ne, nd, ?_⟩
    rw [rs_eq na ne]
    exact k d nd⟩⟩⟩
end Wp
set_option Elab.async false
set_option linter.all false
set_option maxRecDepth 100000
set_option maxHeartbeats 4000000
namespace Wp
open PySem L2
/-! ## a field is made -/
def meth (i j : Nat) : Stmt := match top i with
  | .ClassDef _ _ _ body _ _ _ _ _ _ _ => body.getD j (.Pass ⟨0, 0, 0, 0⟩)
  | s => s
abbrev sFI : Stmt := meth 24 0
abbrev sFE : Stmt := meth 24 1
def fieldRight (n m t d w : PyData) : Bool := isFieldName n && fitsMode m t d && (match n with
  | .str x => wasRight x w
  | _ => false)
def txtsOf (w : PyData) : List Str := txts ((seqOf w).getD [])
def fsF (n m t d : V) (tw : Addr) : List (Str × V) := [("name", n), ("mode", m), ("target", t), ("default", d), ("was", .ref tw)]
/-- all but x is as it was -/
def But (x : Addr) (H H' : Hp) : Prop := ∀ b o, b ≠ x → H b = some o → H' b = some o
def spFI (K : PySem.W.Frag) (CF CB : Addr) : Sp := fun vs H Q E => ∃ (x dx : Addr) (un um ut ud uw : V) (n m t d w : PyData), vs = [.ref x, un, um, ut, ud, uw] ∧ H x = some (.ins CF dx []) ∧
  Dq K H un n ∧ Dq K H um m ∧ Dq K H ut t ∧ Dq K H ud d ∧ Dq K H uw w ∧ Shrt n ∧ Shrt t ∧ ShrtS w ∧
  (fieldRight n m t d w = true → ∀ (H' : Hp) (tw : Addr), But x H H' → H' x = some (.ins CF dx (fsF un um ut ud tw)) → SqT K H' tw ((txtsOf w).map V.str) → Q .non H') ∧
  (fieldRight n m t d w = false → ∀ (H' : Hp) (e : Addr), Same H H' → H e = none → H' e = some (.xd [("name", un)]) → E (.ref CB) (some e) H')
theorem none_of {H H' : Hp} {d : Addr} (s : Same H H') (h : H' d = none) : H d = none := by
  cases e : H d with
  | none => rfl
  | some o =>
    rw [s _ _ e] at h
    cases h
theorem sqL_off {K : PySem.W.Frag} {H : Hp} {a x C dx : Addr} {xs : List V} {fs : List (Str × V)} {o : HO} (h : SqL K H a xs) (hx : H x = some (.ins C dx fs)) : SqL K (upd H x o) a xs := by
  rcases h with (h | ⟨ob, h⟩) | h
  · exact .inl (.inl (by rw [upd_ne (ne_of h hx (by intro z; cases z))]; exact h))
  · exact .inl (.inr ⟨ob, by rw [upd_ne (ne_of h hx (by intro z; cases z))]; exact h⟩)
  · exact .inr h
theorem sqT_off {K : PySem.W.Frag} {H : Hp} {a x C dx : Addr} {xs : List V} {fs : List (Str × V)} {o : HO} (h : SqT K H a xs) (hx : H x = some (.ins C dx fs)) : SqT K (upd H x o) a xs := by
  rcases h with (h | ⟨ob, h⟩) | h
  · exact .inl (.inl (by rw [upd_ne (ne_of h hx (by intro z; cases z))]; exact h))
  · exact .inl (.inr ⟨ob, by rw [upd_ne (ne_of h hx (by intro z; cases z))]; exact h⟩)
  · exact .inr h
/-- the class whose things are plain, with these attributes -/
structure PlainC (K : PySem.W.Frag) (C : Addr) (fs : List Str) : Prop where
  cl : Cls K C
  no : ∀ f ∈ fs, NoAttr K C f
section
variable {P : Program} {w : World} {K : PySem.W.Frag} {mg : Str → Option Value} {base : Heap}
theorem scFI : FnScope ["self", "name", "mode", "target", "default", "was"] ["self", "name", "mode", "target", "default", "was"] (defScope sFI) := ⟨rfl, rfl, rfl, by decide +kernel, rfl, by decide +kernel, by decide +kernel⟩
theorem ok_FI {params : Arguments} {f f1 f2 f3 CF CB fB : Addr} {fd fd1 fd2 fd3 fdB : FuncData} {kws : List (Str × V)} (F : FunD K "__init__" "Field.__init__" params (defBody sFI) (defScope sFI) [] kws f fd) (B : Bn mg)
    (N : Known P w K mg base CX0 2 "is_field_name" ["value"] (spIsField K) f1 fd1) (T : Known P w K mg base CX0 3 "_fits_mode" ["mode", "target", "default"] (spFits K) f2 fd2) (W : Known P w K mg base CX0 3 "_is_was" ["name", "was"] (spWas K) f3 fd3)
    (M : Mk1 P w K mg base "BadField" "name" CB fB fdB) (C : PlainC K CF ["name", "mode", "target", "default", "was"]) : FnOk P w K mg base (L2.CX P w) 4 f fd ["self", "name", "mode", "target", "default", "was"] (spFI K CF CB) := by
  refine F.ok scFI (fun vs H Q E h => ?_) (fun cdv A outer s H vs Q E hr h => ?_)
  · obtain ⟨x, dx, un, um, ut, ud, uw, n, m, t, d, w, rfl, _⟩ := h
    rfl
  · obtain ⟨x, dx, un, um, ut, ud, uw, n, m, t, d, wd, rfl, hx, qn, qm, qt, qd, qw, sn, st, sw, k1, k2⟩ := h
    refine ⟨_, pss_cons (ps_if (PW.pt (pw_or (pt_not (pt_val (pe_call N.ok (hr.mono (by decide)) rfl N.mg N.kp N.bi .nil pass0 (pa_cons (pv 1) pa_nil))))
          (pw_or (pt_not (pt_val (pe_call T.ok hr rfl T.mg T.kp T.bi .nil pass0 (pa_cons (pv 2) (pa_cons (pv 3) (pa_cons (pv 4) pa_nil))))))
          (pw_or1 (pt_not (pt_val (pe_call W.ok hr rfl W.mg W.kp W.bi .nil pass0 (pa_cons (pv 1) (pa_cons (pv 5) pa_nil)))))))))
        (pss_one (ps_raise rfl (takes_of rfl rfl rfl rfl) (pmk_oex (dvs := []) M.T M.iC M.tI M.FI (hr.mono (by decide)) M.bI .nil pass0 (by rfl) M.gC (pa_cons (pv 1) pa_nil)))) pss_nil)
      (pss_cons (ps_fld (pv 0) (pv 1) rfl)
      (pss_cons (ps_fld (pv 0) (pv 2) rfl)
      (pss_cons (ps_fld (pv 0) (pv 3) rfl)
      (pss_cons (ps_fld (pv 0) (pv 4) rfl)
      (pss_one (ps_fld (pv 0) (pe_callTy call_tuple_of (by rfl) B.tuple boot_ttuple (pa_cons (pv 5) pa_nil)) rfl)))))), ?_⟩
    have r0 : ∀ H1, Same H H1 → fieldRight n m t d wd = false → [un].length ≤ 1000 ∧ ∀ a, H1 a = none → spI1 CB "name" (.ref a :: ([un] ++ [])) (upd H1 a (exo a CB none))
        (fun u H2 => u = .non ∧ ∃ (d : Addr) (fs : List (Str × V)), H2 a = some (exo a CB (some d)) ∧ H2 d = some (exd d fs) ∧ H1 d = none ∧ E (.ref CB) (some d) (upd (L2.del H2 a) d (.xd fs))) (fun _ _ _ => False) :=
      fun H1 s1 bad => rs1 (Q := E) fun d0 nd => k2 bad _ d0 (s1.trans (same_new nd)) (none_of s1 nd) upd_same
    refine ⟨_, rfl, un, n, rfl, qn, sn, fun H1 s1 => ⟨_, rfl, ?_⟩⟩
    cases e1 : isFieldName n with
    | false => exact ⟨un, rfl, r0 H1 s1 (by simp only [fieldRight, e1]; rfl)⟩
    | true =>
      refine ⟨_, rfl, _, rfl, _, rfl, um, ut, ud, m, t, d, rfl, qm.same s1, qt.same s1, qd.same s1, st, fun H2 s2 => ⟨_, rfl, ?_⟩⟩
      have s12 := s1.trans s2
      cases e2 : fitsMode m t d with
      | false => exact ⟨un, rfl, r0 H2 s12 (by simp only [fieldRight, e1, e2]; rfl)⟩
      | true =>
        obtain ⟨nx, rfl⟩ : ∃ nx, n = .str nx := by
          cases n <;> first | exact ⟨_, rfl⟩ | exact absurd e1 (by simp [isFieldName, isWordN])
        obtain rfl := qn.str_of
        refine ⟨_, rfl, _, rfl, nx, uw, wd, rfl, qw.same s12, sw, fun H3 s3 => ⟨_, rfl, ?_⟩⟩
        have s123 := s12.trans s3
        cases e3 : wasRight nx wd with
        | false => exact ⟨_, rfl, r0 H3 s123 (by simp only [fieldRight, e1, e2, e3]; rfl)⟩
        | true =>
          have right : fieldRight (.str nx) m t d wd = true := by
            simp only [fieldRight, e1, e2, e3]
            rfl
          have hx3 := s123 _ _ hx
          obtain ⟨ds, e4⟩ : ∃ ds, seqOf wd = some ds := by
            cases e : seqOf wd with
            | none =>
              simp only [wasRight, e] at e3
              cases e3
            | some ds => exact ⟨ds, rfl⟩
          have e5 : ds.all isFieldName = true := by
            simp only [wasRight, e4, Bool.and_eq_true] at e3
            exact e3.1.1.2
          obtain ⟨a, vs, rfl, sq, da, shp⟩ := (qw.same s123).seq e4
          obtain ⟨e6, e7⟩ := dpAll_txts da e5
          subst e6
          have e8 : txtsOf wd = txts ds := by simp only [txtsOf, e4, Option.getD_some]
          refine ⟨_, rfl, _, rfl, x, CF, dx, _, rfl, hx3, C.cl, C.no _ (by simp), (by decide), ?_⟩
          refine ⟨_, rfl, _, rfl, x, CF, dx, _, rfl, upd_same, C.cl, C.no _ (by simp), (by show 1 < 1000; decide), ?_⟩
          refine ⟨_, rfl, _, rfl, x, CF, dx, _, rfl, upd_same, C.cl, C.no _ (by simp), (by show 2 < 1000; decide), ?_⟩
          refine ⟨_, rfl, _, rfl, x, CF, dx, _, rfl, upd_same, C.cl, C.no _ (by simp), (by show 3 < 1000; decide), ?_⟩
          rw [upd_upd, upd_upd, upd_upd]
          refine ⟨_, rfl, a, (txts ds).map V.str, rfl, ?_⟩
          have fin : ∀ (tw : Addr) (H4 : Hp), H4 x = some (.ins CF dx [("name", .str nx), ("mode", um), ("target", ut), ("default", ud)]) → But x H H4 → SqT K H4 tw ((txts ds).map V.str) →
              Q .non (upd H4 x (.ins CF dx (fsF (.str nx) um ut ud tw))) := by
            intro tw H4 e9 b4 sT
            refine k1 right _ tw (fun b o ne e => ?_) upd_same ?_
            · rw [upd_ne ne]
              exact b4 b o ne e
            · rw [e8]
              exact sqT_off sT e9
          rcases sq with ⟨sq, _⟩ | ⟨sq, _⟩
          · refine .inl ⟨sqL_off sq hx3, fun l hl => ?_⟩
            have nl : l ≠ x := fun z => by rw [z, upd_same] at hl; cases hl
            have hl3 : H3 l = none := by rw [upd_ne nl] at hl; exact hl
            refine ⟨_, rfl, x, CF, dx, _, rfl, (upd_ne (Ne.symm nl)).trans upd_same, C.cl, C.no _ (by simp), (by show 4 < 1000; decide), ?_⟩
            refine fin l _ ((upd_ne (Ne.symm nl)).trans upd_same) (fun b o ne e => ?_) (SqT.of upd_same)
            have e1 := s123 b o e
            rw [upd_ne (ne_of_none e1 hl3), upd_ne ne]
            exact e1
          · refine .inr ⟨sqT_off sq hx3, ?_⟩
            refine ⟨_, rfl, x, CF, dx, _, rfl, upd_same, C.cl, C.no _ (by simp), (by show 4 < 1000; decide), ?_⟩
            refine fin a _ upd_same (fun b o ne e => ?_) (sqT_off sq hx3)
            rw [upd_ne ne]
            exact s123 b o e
end
end Wp
set_option Elab.async false
set_option linter.all false
set_option maxRecDepth 100000
set_option maxHeartbeats 4000000
namespace Wp
open PySem L2
/-! ## two fields are compared -/
/-- what isinstance and == ask of an own class -/
structure OwnC (K : PySem.W.Frag) (C : Addr) : Prop where
  cl : Cls K C
  ha : PySem.W.findIn K (.ref C) "__class__" = some (some (.builtin "object.__class__"))
  hn : PySem.W.specialIn K (.builtin "object.__class__") "__get__" = some (some (.builtin "getset_descriptor.__get__"))
  htk : PySem.W.takesIn K (.builtin "object.__class__") = some true
  hm : PySem.W.mroIn K C (.type "object") = some true
  self : PySem.W.kitOne K (.ref C) (.ref C) = some true
  other : ∀ d : PyData, PySem.W.kitOne K (.type (tyN d)) (.ref C) = some false
theorem OwnC.ty {K : PySem.W.Frag} {C : Addr} (O : OwnC K C) {H : Hp} {a dx : Addr} {fs : List (Str × V)} (h : H a = some (.ins C dx fs)) : TyX K H (.ref a) (.ref C) := .base (.ins h O.cl O.ha O.hn O.htk O.hm)
/-- a field's parts -/
structure FV where
  n : Str
  m : Str
  t : Option Str
  d : Int
  w : List Str
deriving DecidableEq
theorem fv_dec {v u : FV} (e1 : v.n = u.n) (e2 : v.m = u.m) (e3 : v.t = u.t) (e4 : v.d = u.d) : decide (v.w = u.w) = decide (v = u) := by
  cases v
  cases u
  simp only at e1 e2 e3 e4
  subst e1 e2 e3 e4
  simp
def tv : Option Str → V
  | none => .non
  | some x => .str x
theorem tv_inj {a b : Option Str} (h : tv a = tv b) : a = b := by
  cases a <;> cases b <;> simp [tv] at h <;> simp [h]
theorem scal_tv (a b : Option Str) : scal (tv a) (tv b) = true := by
  cases a <;> cases b <;> rfl
structure FieldAt (K : PySem.W.Frag) (CF : Addr) (H : Hp) (a : Addr) (v : FV) : Prop where
  ex : ∃ dx tw, H a = some (.ins CF dx (fsF (.str v.n) (.str v.m) (tv v.t) (.int v.d) tw)) ∧ SqT K H tw (v.w.map V.str)
  sh : SeqAt.shaped (.tuple (v.w.map PyData.str)) = true
theorem eqv_txts : ∀ w u : List Str, PyData.eqvAll (w.map PyData.str) (u.map PyData.str) = decide (w = u)
  | [], [] => rfl
  | [], _ :: _ => rfl
  | _ :: _, [] => rfl
  | x :: w, y :: u => by
    show (PyData.eqv (.str x) (.str y) && PyData.eqvAll _ _) = _
    rw [eqv_txts w u, eqv_txt]
    by_cases e : x = y
    · by_cases z : w = u <;> simp [isTxt, e, z]
    · simp [isTxt, e]
theorem dpAll_strs {K : PySem.W.Frag} {H : Hp} : ∀ w : List Str, DpAll K H (w.map V.str) (w.map PyData.str)
  | [] => .nil
  | x :: w => .cons (.str x) (dpAll_strs w)
theorem ne_mode_name : (("mode" : Str) == "name") = false := by decide +kernel
theorem ne_target_name : (("target" : Str) == "name") = false := by decide +kernel
theorem ne_target_mode : (("target" : Str) == "mode") = false := by decide +kernel
theorem ne_default_name : (("default" : Str) == "name") = false := by decide +kernel
theorem ne_default_mode : (("default" : Str) == "mode") = false := by decide +kernel
theorem ne_default_target : (("default" : Str) == "target") = false := by decide +kernel
theorem ne_was_name : (("was" : Str) == "name") = false := by decide +kernel
theorem ne_was_mode : (("was" : Str) == "mode") = false := by decide +kernel
theorem ne_was_target : (("was" : Str) == "target") = false := by decide +kernel
theorem ne_was_default : (("was" : Str) == "default") = false := by decide +kernel
theorem lk_fs (x y z u : V) (tw : Addr) : List.lookup ("was" : Str) (fsF x y z u tw) = some (V.ref tw) ∧ List.lookup ("default" : Str) (fsF x y z u tw) = some u ∧ List.lookup ("target" : Str) (fsF x y z u tw) = some z ∧ List.lookup ("mode" : Str) (fsF x y z u tw) = some y ∧ List.lookup ("name" : Str) (fsF x y z u tw) = some x := by
  simp [fsF, List.lookup, ne_mode_name, ne_target_name, ne_target_mode, ne_default_name, ne_default_mode, ne_default_target, ne_was_name, ne_was_mode, ne_was_target, ne_was_default]
/-- a field beside a field, or beside a tuple -/
def spFE (K : PySem.W.Frag) (CF : Addr) : Sp := fun vs H Q _ => ∃ (a : Addr) (y : V) (v : FV), vs = [.ref a, y] ∧ FieldAt K CF H a v ∧
  ((∃ (b : Addr) (u : FV), y = .ref b ∧ FieldAt K CF H b u ∧ Q (.bl (decide (v = u))) H) ∨ (∃ (q : Addr) (ys : List V), y = .ref q ∧ SqT K H q ys ∧ Q (.bl false) H))
section
variable {P : Program} {w : World} {K : PySem.W.Frag} {mg : Str → Option Value} {base : Heap}
theorem scFE : FnScope ["self", "other"] ["self", "other"] (defScope sFE) := ⟨rfl, rfl, rfl, by decide +kernel, rfl, by decide +kernel, by decide +kernel⟩
theorem ok_FE {f CF : Addr} {fd : FuncData} (F : Fun K "__eq__" "Field.__eq__" sFE f fd) (B : Bn mg) (O : OwnC K CF) (C : PlainC K CF ["name", "mode", "target", "default", "was"]) (g : mg "Field" = some (.ref CF)) :
    FnOk P w K mg base CX0 1 f fd ["self", "other"] (spFE K CF) := by
  refine F.ok scFE (fun vs H Q E h => ?_) (fun cdv A outer s H vs Q E hr h => ?_)
  · obtain ⟨a, y, v, rfl, _⟩ := h
    rfl
  · obtain ⟨a, y, v, rfl, fa, h⟩ := h
    refine ⟨_, pss_one (ps_ret (pe_and (pe_callB call_isi (by rfl) B.isi boot_isi (pa_cons (pv 1) (pa_cons (pe_glob (v := .ref CF) (by rfl) g rfl) pa_nil)))
      (pe_and (pe_cmpR op_eq (pe_fld (pv 0) rfl) (pe_fld (pv 1) rfl) (nomark _))
      (pe_and (pe_cmpR op_eq (pe_fld (pv 0) rfl) (pe_fld (pv 1) rfl) (nomark _))
      (pe_and (pe_cmpR op_eq (pe_fld (pv 0) rfl) (pe_fld (pv 1) rfl) (nomark _))
      (pe_and (pe_cmpR op_eq (pe_fld (pv 0) rfl) (pe_fld (pv 1) rfl) (nomark _))
      (pe_one (pe_cmpR (op_eqD hr.units) (pe_fld (pv 0) rfl) (pe_fld (pv 1) rfl) (nomark _)))))))) ), ?_⟩
    rcases h with ⟨b, u, rfl, fb, k⟩ | ⟨q, ys, rfl, sq, k⟩
    · obtain ⟨dx, tw, ha, sa⟩ := fa.ex
      obtain ⟨dy, uw, hb, sb⟩ := fb.ex
      refine ⟨_, rfl, .ref b, .ref CF, .ref CF, .ref CF, true, rfl, .own CF, O.ty hb, O.self, _, rfl, ?_⟩
      have no : v ≠ u → Q (.bl false) H := fun ne => by
        rw [decide_eq_false ne] at k
        exact k
      have lk := lk_fs
      -- name
      refine ⟨_, rfl, a, CF, dx, _, _, rfl, ha, C.cl, C.no _ (by simp), (lk _ _ _ _ _).2.2.2.2, _, rfl, b, CF, dy, _, _, rfl, hb, C.cl, C.no _ (by simp), (lk _ _ _ _ _).2.2.2.2, rfl, _, rfl, ?_⟩
      by_cases e1 : ¬ v.n = u.n
      · rw [decide_eq_false (p := V.str v.n = V.str u.n) fun z => e1 (by injection z)]
        exact no fun z => e1 (z ▸ rfl)
      have e1 := Decidable.of_not_not e1
      rw [decide_eq_true (p := V.str v.n = V.str u.n) (by rw [e1])]
      -- mode
      refine ⟨_, rfl, a, CF, dx, _, _, rfl, ha, C.cl, C.no _ (by simp), (lk _ _ _ _ _).2.2.2.1, _, rfl, b, CF, dy, _, _, rfl, hb, C.cl, C.no _ (by simp), (lk _ _ _ _ _).2.2.2.1, rfl, _, rfl, ?_⟩
      by_cases e2 : ¬ v.m = u.m
      · rw [decide_eq_false (p := V.str v.m = V.str u.m) fun z => e2 (by injection z)]
        exact no fun z => e2 (z ▸ rfl)
      have e2 := Decidable.of_not_not e2
      rw [decide_eq_true (p := V.str v.m = V.str u.m) (by rw [e2])]
      -- target
      refine ⟨_, rfl, a, CF, dx, _, _, rfl, ha, C.cl, C.no _ (by simp), (lk _ _ _ _ _).2.2.1, _, rfl, b, CF, dy, _, _, rfl, hb, C.cl, C.no _ (by simp), (lk _ _ _ _ _).2.2.1, scal_tv _ _, _, rfl, ?_⟩
      by_cases e3 : ¬ v.t = u.t
      · rw [decide_eq_false (p := tv v.t = tv u.t) fun z => e3 (tv_inj z)]
        exact no fun z => e3 (z ▸ rfl)
      have e3 := Decidable.of_not_not e3
      rw [decide_eq_true (p := tv v.t = tv u.t) (by rw [e3])]
      -- default
      refine ⟨_, rfl, a, CF, dx, _, _, rfl, ha, C.cl, C.no _ (by simp), (lk _ _ _ _ _).2.1, _, rfl, b, CF, dy, _, _, rfl, hb, C.cl, C.no _ (by simp), (lk _ _ _ _ _).2.1, rfl, _, rfl, ?_⟩
      by_cases e4 : ¬ v.d = u.d
      · rw [decide_eq_false (p := V.int v.d = V.int u.d) fun z => e4 (by injection z)]
        exact no fun z => e4 (z ▸ rfl)
      have e4 := Decidable.of_not_not e4
      rw [decide_eq_true (p := V.int v.d = V.int u.d) (by rw [e4])]
      -- was
      refine ⟨_, rfl, a, CF, dx, _, _, rfl, ha, C.cl, C.no _ (by simp), (lk _ _ _ _ _).1, _, rfl, b, CF, dy, _, _, rfl, hb, C.cl, C.no _ (by simp), (lk _ _ _ _ _).1, .tuple (v.w.map .str), .tuple (u.w.map .str),
        .tup sa (dpAll_strs _), .tup sb (dpAll_strs _), fa.sh, fb.sh, ?_⟩
      have e5 : PyData.eqv (.tuple (v.w.map .str)) (.tuple (u.w.map .str)) = decide (v = u) := by
        show PyData.eqvAll _ _ = _
        rw [eqv_txts]
        exact fv_dec e1 e2 e3 e4
      rw [e5]
      exact k
    · exact ⟨_, rfl, .ref q, .ref CF, .type "tuple", .ref CF, false, rfl, .own CF, SqT.ty sq, O.other (.tuple []), _, rfl, k⟩
end
end Wp
set_option Elab.async false
set_option linter.all false
set_option maxRecDepth 100000
set_option maxHeartbeats 4000000
namespace Wp
open PySem L2
/-! ## fields of a kind -/
inductive Item
  | f (v : FV)
  | d (x : PyData)
def ItAt (K : PySem.W.Frag) (CF : Addr) (H : Hp) (u : V) : Item → Prop
  | .f v => ∃ a, u = .ref a ∧ FieldAt K CF H a v
  | .d x => Dq K H u x
def isF : Item → Bool
  | .f _ => true
  | .d _ => false
def nameOf : Item → Str
  | .f v => v.n
  | .d _ => Str.empty
def areFields (its : List Item) : Bool := decide (its.length ≤ 10) && its.all isF && decide (its.map nameOf).Nodup
theorem FieldAt.same {K : PySem.W.Frag} {CF : Addr} {H H' : Hp} {a : Addr} {v : FV} (h : FieldAt K CF H a v) (s : Same H H') : FieldAt K CF H' a v := by
  obtain ⟨⟨dx, tw, e, sq⟩, sh⟩ := h
  exact ⟨⟨dx, tw, s _ _ e, sqT_same s sq⟩, sh⟩
theorem ItAt.same {K : PySem.W.Frag} {CF : Addr} {H H' : Hp} {u : V} {i : Item} (h : ItAt K CF H u i) (s : Same H H') : ItAt K CF H' u i := by
  cases i with
  | f v =>
    obtain ⟨a, e, q⟩ := h
    exact ⟨a, e, q.same s⟩
  | d x => exact Dq.same s h
theorem paired_get {α β : Type} {F : α → β → Prop} : ∀ {xs : List α} {ys : List β}, Paired F xs ys → ∀ {j : Nat} {x : α}, xs[j]? = some x → ∃ y, ys[j]? = some y ∧ F x y
  | _, _, .nil, j, x, e => by simp at e
  | _, _, .cons (a := a) (b := b) r t, j, x, e => by
    cases j with
    | zero =>
      simp at e
      subst e
      exact ⟨b, rfl, r⟩
    | succ j => exact paired_get t (by simpa using e)
def spAF (K : PySem.W.Frag) (CF : Addr) : Sp := fun vs H Q _ => ∃ v : V, vs = [v] ∧
  ((∃ (a : Addr) (us : List V) (its : List Item), v = .ref a ∧ (SqL K H a us ∨ SqT K H a us) ∧ Paired (ItAt K CF H) us its ∧ its.length ≤ 1000 ∧ ∀ H', Same H H' → Q (.bl (areFields its)) H') ∨
   (∃ d : PyData, Dq K H v d ∧ (isLst d || isTup d) = false ∧ ∀ H', Same H H' → Q (.bl false) H'))
section
variable {P : Program} {w : World} {K : PySem.W.Frag} {mg : Str → Option Value} {base : Heap}
abbrev sAF : Stmt := top 25
theorem scAF : FnScope ["fields", "field"] ["fields"] (defScope sAF) := ⟨rfl, rfl, rfl, by decide +kernel, rfl, by decide +kernel, by decide +kernel⟩
theorem ok_AF {f f2 CF CH : Addr} {mc u10 : Value} {fd fd2 : FuncData} (F : Fun K "_are_fields" "_are_fields" sAF f fd) (B : Bn mg) (O : OwnC K CF) (C : PlainC K CF ["name", "mode", "target", "default", "was"]) (g : mg "Field" = some (.ref CF))
    (gH : mg "House" = some (.ref CH)) (cr : ClX.CRead K CH mc) (cv : ClX.CVal K CH mc "FIELDS" (.int 10) u10) (D : Known P w K mg base CX0 1 "are_different" ["names"] (spDiff K) f2 fd2) : FnOk P w K mg base CX0 2 f fd ["fields"] (spAF K CF) := by
  refine F.ok scAF (fun vs H Q E h => ?_) (fun cdv A outer s H vs Q E hr h => ?_)
  · obtain ⟨v, rfl, _⟩ := h
    rfl
  · obtain ⟨v, rfl, h⟩ := h
    refine ⟨_, pss_cons (ps_if (PW.pt (pw_or (pt_not (pt_val (pe_callB call_isiT (by rfl) B.isi boot_isi (pa_cons (pv 0) (pa_cons (pe_tup (pa_cons (pe_bltn (v := .ty "list") (by rfl) B.list PyProof.Rows.boot_list rfl) (pa_cons (pe_bltn (v := .ty "tuple") (by rfl) B.tuple boot_ttuple rfl) pa_nil))) pa_nil)))))
          (pw_or1 (pt_cmpR op_gt (pe_callB call_len_seq (by rfl) B.len PySem.boot_len (pa_cons (pv 0) pa_nil)) (ClX.pe_cval (pe_glob (v := .ref CH) (by rfl) gH rfl)) (nomark _)))))
        (pss_one (ps_ret pe_bl)) pss_nil)
      (pss_cons (ps_if (pt_not (pt_val (pe_callB (cr_all rfl) (by rfl) B.all boot_all (pa_cons (pe_lc (own := [("field", 1)]) (g := gName 1) (tt := tYes) (te := tCB (rIsi K) (tCons (tVar 1) (tCons (tC (.ref CF)) tNil))) rfl scAF.nd (pi_seqV (i := 0) (pv 0))
          (blkOk_by (N := ["fields", "field"]) (sc := defScope sAF) (by decide +kernel)) (fun _ _ _ _ _ => pg_name (i := 1) scAF.nd rfl (Or.inl rfl)) (fun _ _ _ _ _ => pts_nil)
          (fun _ _ _ _ _ => pe_callB call_isi (by rfl) B.isi boot_isi (pa_cons (pv 1) (pa_cons (pe_glob (v := .ref CF) (by rfl) g rfl) pa_nil)))) pa_nil))))
        (pss_one (ps_ret pe_bl)) pss_nil)
      (pss_one (ps_ret (pe_call D.ok hr rfl D.mg D.kp D.bi .nil pass0 (pa_cons (pe_lc (own := [("field", 1)]) (g := gName 1) (tt := tYes) (te := tFld K (tVar 1) "name") rfl scAF.nd (pi_seqV (i := 0) (pv 0))
          (blkOk_by (N := ["fields", "field"]) (sc := defScope sAF) (by decide +kernel)) (fun _ _ _ _ _ => pg_name (i := 1) scAF.nd rfl (Or.inl rfl)) (fun _ _ _ _ _ => pts_nil)
          (fun _ _ _ _ _ => pe_fld (pv 1) rfl)) pa_nil))))), ?_⟩
    refine ⟨_, rfl, by show 2 ≤ sizeLine; decide, fun T hT => ?_⟩
    have s1 : Same H (upd H T (.tup [.ty "list", .ty "tuple"])) := same_new hT
    rcases h with ⟨a, us, its, rfl, sq, pr, few, k⟩ | ⟨d, q, no, k⟩
    · have sq1 : SqL K (upd H T (.tup [.ty "list", .ty "tuple"])) a us ∨ SqT K (upd H T (.tup [.ty "list", .ty "tuple"])) a us := sq.imp (sqL_same s1) (sqT_same s1)
      have pr1 : Paired (ItAt K CF (upd H T (.tup [.ty "list", .ty "tuple"]))) us its := L2.Paired.mapP pr fun _ _ z => z.same s1
      obtain ⟨dd, ty, yes⟩ : ∃ dd : PyData, TyX K (upd H T (.tup [.ty "list", .ty "tuple"])) (.ref a) (.type (tyN dd)) ∧ (isLst dd || isTup dd) = true :=
        sq1.elim (fun z => ⟨.list [], SqL.ty z, rfl⟩) fun z => ⟨.tuple [], SqT.ty z, rfl⟩
      have ln : us.length = its.length := pr.length
      refine ⟨.ref a, T, [.ty "list", .ty "tuple"], _, [.type "list", .type "tuple"], _, rfl, upd_same, .cons (.ty _) (.cons (.ty _) .nil), ty, kit_seq dd, _, rfl, ?_⟩
      rw [yes]
      refine ⟨_, rfl, a, us, rfl, sq1, CH, mc, .int 10, u10, rfl, cr, cv, _, _, rfl, rfl, _, rfl, ?_⟩
      have no : ∀ H', Same H H' → areFields its = false → Q (.bl false) H' := fun H' s e => by
        have r := k H' s
        rw [e] at r
        exact r
      cases e2 : decide ((10 : Int) < us.length) with
      | true =>
        refine no _ s1 ?_
        have e3 : ¬ its.length ≤ 10 := by
          have := of_decide_eq_true e2
          omega
        simp only [areFields, decide_eq_false e3, Bool.false_and]
      | false =>
        have e3 : its.length ≤ 10 := by
          have := of_decide_eq_false e2
          omega
        refine ⟨a, us, rfl, sq1, fun J G w hG D0 hD0 => ?_⟩
        refine lc_grow (f := fun j => V.bl (isF (its.getD j (.d .none)))) w (by omega) (fun H' z => hG H' (.of z)) hD0 ?_ ?_
        · intro j x H1 R hx sm k1
          obtain ⟨i0, g1, g2⟩ := paired_get pr1 hx
          have r := k1 H1 (Same.refl _)
          rw [List.getD_eq_getElem?_getD, g1] at r
          cases i0 with
          | f v =>
            obtain ⟨b, rfl, fb⟩ := g2
            obtain ⟨dx, tw, e, _⟩ := (fb.same sm).ex
            exact ⟨_, rfl, .ref b, .ref CF, .ref CF, .ref CF, true, rfl, .own CF, O.ty e, O.self, r⟩
          | d dt => exact ⟨_, rfl, x, .ref CF, _, .ref CF, false, rfl, .own CF, (Dq.same sm g2).ty, O.other dt, r⟩
        · intro H' s2 hL
          have s3 : Same H H' := s1.trans s2
          rw [show (List.range us.length).map (fun j => V.bl (isF (its.getD j (.d .none)))) = (its.map isF).map V.bl by rw [ln, List.map_map, ← range_map (V.bl ∘ isF) (.d .none) its]; rfl] at hL
          refine ⟨D0, its.map isF, rfl, SqL.of hL, _, rfl, ?_⟩
          have e4 : (its.map isF).all id = its.all isF := by simp [List.all_map, Function.comp_def]
          rw [e4]
          cases e5 : its.all isF with
          | false =>
            refine no _ s3 ?_
            simp only [areFields, e5, Bool.and_false, Bool.false_and]
          | true =>
            have sq2 : SqL K H' a us ∨ SqT K H' a us := sq1.imp (sqL_same s2) (sqT_same s2)
            refine ⟨a, us, rfl, sq2, fun J2 G2 w2 hG2 D1 hD1 => ?_⟩
            refine lc_grow (f := fun j => V.str (nameOf (its.getD j (.d .none)))) w2 (by omega) (fun H' z => hG2 H' (.of z)) hD1 ?_ ?_
            · intro j x H1 R hx sm k1
              obtain ⟨i0, g1, g2⟩ := paired_get pr1 hx
              have r := k1 H1 (Same.refl _)
              rw [List.getD_eq_getElem?_getD, g1] at r
              cases i0 with
              | f v =>
                obtain ⟨b, rfl, fb⟩ := g2
                obtain ⟨dx, tw, e, _⟩ := (fb.same (s2.trans sm)).ex
                exact ⟨_, rfl, b, CF, dx, _, _, rfl, e, C.cl, C.no _ (by simp), (lk_fs _ _ _ _ _).2.2.2.2, r⟩
              | d dt =>
                have := List.all_eq_true.mp e5 _ (List.mem_of_getElem? g1)
                cases this
            · intro H2 s4 hL2
              rw [show (List.range us.length).map (fun j => V.str (nameOf (its.getD j (.d .none)))) = (its.map nameOf).map V.str by rw [ln, List.map_map, ← range_map (V.str ∘ nameOf) (.d .none) its]; rfl] at hL2
              refine ⟨D1, its.map nameOf, rfl, ⟨.inl (SqL.of hL2), by rw [List.length_map]; omega⟩, ?_⟩
              have r := k H2 (s3.trans s4)
              simp only [areFields, e5, decide_eq_true e3, Bool.true_and] at r
              exact r
    · refine ⟨v, T, [.ty "list", .ty "tuple"], _, [.type "list", .type "tuple"], _, rfl, upd_same, .cons (.ty _) (.cons (.ty _) .nil), (q.same s1).ty, kit_seq d, _, rfl, ?_⟩
      rw [no]
      exact k _ s1
end
end Wp
set_option Elab.async false
set_option linter.all false
set_option maxRecDepth 100000
set_option maxHeartbeats 4000000
namespace Wp
open PySem L2
/-! ## what goes together -/
def tru : PyData → Bool
  | .bool b => b
  | _ => false
def canBe (b f h k r : PyData) : Bool := isBool f && isBool h && isBool r && !(!isNon b && (tru f || tru h)) && !(tru h && (tru f || !isNon k)) && (!isNon k || !tru r)
/-- an if whose test changes nothing -/
theorem if_pure {tA : TT} {ta tb t2 : TS} {D : Ends} {σ : L2.St} {H : Hp} {c : Bool} (h : ∀ R : Bool → Hp → Prop, R c H → tA σ H R) (k : if c = true then ta { D with nx := t2 D } σ H else tb { D with nx := t2 D } σ H) : tSeq (tIfS tA ta tb) t2 D σ H := h _ k
theorem next_if {tA : TT} {ta tb t2 : TS} {D D0 : Ends} {σ : L2.St} {H : Hp} {c : Bool} (e : D0.nx = tSeq (tIfS tA ta tb) t2 D) (h : ∀ R : Bool → Hp → Prop, R c H → tA σ H R) (k : if c = true then ta { D with nx := t2 D } σ H else tb { D with nx := t2 D } σ H) : tNext D0 σ H := by
  show D0.nx σ H
  rw [e]
  exact h _ k
def spCB (K : PySem.W.Frag) : Sp := fun vs H Q _ => ∃ (ub uf uh uk ur : V) (b f h k r : PyData), vs = [ub, uf, uh, uk, ur] ∧ Dq K H ub b ∧ Dq K H uf f ∧ Dq K H uh h ∧ Dq K H uk k ∧ Dq K H ur r ∧ ∀ H', Same H H' → Q (.bl (canBe b f h k r)) H'
theorem Dq.bool_of {K : PySem.W.Frag} {H : Hp} {v : V} {d : PyData} (q : Dq K H v d) (e : isBool d = true) : ∃ b, v = .bl b ∧ d = .bool b := by
  cases d <;> cases e
  cases q with
  | dat q _ =>
    cases q
    exact ⟨_, rfl, rfl⟩
section
variable {P : Program} {w : World} {K : PySem.W.Frag} {mg : Str → Option Value} {base : Heap}
abbrev sCB : Stmt := top 26
theorem scCB : FnScope ["base", "frozen", "heirs", "key", "registered", "part"] ["base", "frozen", "heirs", "key", "registered"] (defScope sCB) := ⟨rfl, rfl, rfl, by decide +kernel, rfl, by decide +kernel, by decide +kernel⟩
theorem ok_CB {f : Addr} {fd : FuncData} (F : Fun K "_can_be" "_can_be" sCB f fd) (B : Bn mg) : FnOk P w K mg base CX0 1 f fd ["base", "frozen", "heirs", "key", "registered"] (spCB K) := by
  refine F.ok scCB (fun vs H Q E h => ?_) (fun cdv A outer s H vs Q E hr h => ?_)
  · obtain ⟨ub, uf, uh, uk, ur, b, f, h, k, r, rfl, _⟩ := h
    rfl
  · obtain ⟨ub, uf, uh, uk, ur, b, f, h, k, r, rfl, qb, qf, qh, qk, qr, k1⟩ := h
    refine ⟨_, pss_cons (ps_if (pt_not (pt_val (pe_callB (cr_all rfl) (by rfl) B.all boot_all (pa_cons (pe_lc (own := [("part", 5)]) (g := gName 5) (tt := tYes) (te := tCB (rIsi K) (tCons (tVar 5) (tCons (tC (.ty "bool")) tNil))) rfl scCB.nd
          (pi_tup (pe_tup (pa_cons (pv 1) (pa_cons (pv 2) (pa_cons (pv 4) pa_nil)))))
          (blkOk_by (N := ["base", "frozen", "heirs", "key", "registered", "part"]) (sc := defScope sCB) (by decide +kernel)) (fun _ _ _ _ _ => pg_name (i := 5) scCB.nd rfl (Or.inl rfl)) (fun _ _ _ _ _ => pts_nil)
          (fun _ _ _ _ _ => pe_callB call_isi (by rfl) B.isi boot_isi (pa_cons (pv 5) (pa_cons (pe_bltn (v := .ty "bool") (by rfl) B.bool boot_tbool rfl) pa_nil)))) pa_nil))))
        (pss_one (ps_ret pe_bl)) pss_nil)
      (pss_cons (ps_if (PW.pt (pw_and (pt_cmpR op_notN (pv 0) pe_non (nomark _)) (pw_and1 (PW.pt (pw_or (pt_val (pv 1)) (pw_or1 (pt_val (pv 2))))))))
        (pss_one (ps_ret pe_bl)) pss_nil)
      (pss_cons (ps_if (PW.pt (pw_and (pt_val (pv 2)) (pw_and1 (PW.pt (pw_or (pt_val (pv 1)) (pw_or1 (pt_cmpR op_notN (pv 3) pe_non (nomark _))))))))
        (pss_one (ps_ret pe_bl)) pss_nil)
      (pss_one (ps_ret (pe_or (pe_cmpR op_notN (pv 3) pe_non (nomark _)) (pe_one (pe_not (pv 4)))))))), ?_⟩
    refine ⟨_, rfl, _, rfl, _, rfl, by show 3 ≤ sizeLine; decide, fun T hT => ?_⟩
    have s1 : Same H (upd H T (.tup [uf, uh, ur])) := same_new hT
    refine ⟨T, rfl, ⟨_, SqT.of upd_same⟩, fun D0 hD0 => ?_⟩
    refine lc_grow (xs := [uf, uh, ur]) (f := fun j => V.bl (isBool ([f, h, r].getD j .none))) walk_tup (by show 3 ≤ 1000; decide) (fun H' z => sqT_same z (SqT.of upd_same)) hD0 ?_ ?_
    · intro j x H1 R hx sm k2
      have s2 := s1.trans sm
      have r1 := k2 H1 (Same.refl _)
      have key : ∀ (x : V) (d : PyData), Dq K H x d → R (.bl (isBool d)) H1 → tCB (rIsi K) (tCons (tVar 5) (tCons (tC (.ty "bool")) tNil)) ((List.set (L2.start ["base", "frozen", "heirs", "key", "registered", "part"] [ub, uf, uh, uk, ur]) 5 none).set 5 (some x)) H1 R :=
        fun x d q r2 => ⟨_, rfl, x, .ty "bool", _, .type "bool", _, rfl, .ty _, (q.same s2).ty, kit_bool d, r2⟩
      match j, hx with
      | 0, hx => cases hx; exact key _ _ qf r1
      | 1, hx => cases hx; exact key _ _ qh r1
      | 2, hx => cases hx; exact key _ _ qr r1
    · intro H' s2 hL
      have s3 := s1.trans s2
      refine ⟨D0, [isBool f, isBool h, isBool r], rfl, SqL.of hL, _, rfl, ?_⟩
      have fin : ∀ c, canBe b f h k r = c → Q (.bl c) H' := fun c e => e ▸ k1 H' s3
      have bad : (isBool f && isBool h && isBool r) = false → Q (.bl false) H' := fun e => fin false (by simp only [canBe, e, Bool.false_and])
      have ea : [isBool f, isBool h, isBool r].all id = (isBool f && isBool h && isBool r) := by
        simp [Bool.and_assoc]
      rw [ea]
      cases e0 : (isBool f && isBool h && isBool r) with
      | false => exact bad e0
      | true =>
        have e1 := e0
        simp only [Bool.and_eq_true] at e1
        obtain ⟨x, rfl, rfl⟩ := qf.bool_of e1.1.1
        obtain ⟨y, rfl, rfl⟩ := qh.bool_of e1.1.2
        obtain ⟨z, rfl, rfl⟩ := qr.bool_of e1.2
        have nb := qb.non
        have nk := qk.non
        have ec : canBe b (.bool x) (.bool y) k (.bool z) = (!(!isNon b && (x || y)) && !(y && (x || !isNon k)) && (!isNon k || !z)) := by
          simp only [canBe, isBool, tru, Bool.true_and]
        refine iteF ?_
        unfold tNext
        dsimp only
        refine if_pure (c := !isNon b && (x || y)) (fun R hR => ?_) ?_
        · refine ⟨_, rfl, rfl, _, rfl, ?_⟩
          rw [nb]
          revert hR
          cases isNon b with
          | true => exact fun hR => hR
          | false =>
            intro hR
            refine ⟨_, rfl, x, rfl, ?_⟩
            cases x with
            | true => exact hR
            | false => exact ⟨_, rfl, y, rfl, hR⟩
        cases c1 : (!isNon b && (x || y)) with
        | true => exact fin false (by rw [ec, c1]; simp)
        | false =>
          refine iteF ?_
          dsimp only
          refine if_pure (c := y && (x || !isNon k)) (fun R hR => ?_) ?_
          · refine ⟨_, rfl, y, rfl, ?_⟩
            cases y with
            | false => exact hR
            | true =>
              refine ⟨_, rfl, x, rfl, ?_⟩
              cases x with
              | true => exact hR
              | false =>
                refine ⟨_, rfl, rfl, _, rfl, ?_⟩
                rw [nk]
                exact hR
          cases c2 : (y && (x || !isNon k)) with
          | true => exact fin false (by rw [ec, c1, c2]; simp)
          | false =>
            have f2 := fin _ ec
            rw [c1, c2] at f2
            refine ⟨_, rfl, rfl, _, rfl, ?_⟩
            rw [nk]
            cases c3 : isNon k with
            | false =>
              rw [c3] at f2
              exact f2
            | true =>
              rw [c3] at f2
              exact ⟨_, rfl, z, rfl, f2⟩
end
end Wp
set_option Elab.async false
set_option linter.all false
set_option maxRecDepth 100000
set_option maxHeartbeats 4000000
namespace Wp
open PySem PySem.Spec PyProof.Rows L2
section
variable {prog : Program} {w : World} {A : Around} {s : Shared} {d : Addr} {o : Obj}
theorem dict_noN {z : Str} {t : Tok} {E : Value → Shared → Prop} {Q : Value → Shared → Prop} (ho : s.heap.get? d = some o) (hc : o.cls = .type "dict") (q : Q .notImplemented s) :
    wpAny (model prog w) A (call (.builtin "dict.__ne__") [.ref d, .str z t]) Q E s := by
  have ty : s.TypeIs (.ref d) "dict" := ⟨o, ho, hc⟩
  refine wpAny_call_entry PySem.F.slot_dict_ne ty PySem.F.entry_dict_ne ?_ (PySem.F.args_dict_ne_2 _ _)
  show wpAny _ _ (Builtin.Dict.dictSlotArgs "__ne__" ⟨[.ref d, .str z t], []⟩ >>= _) _ _ s
  apply wpAny_bind
  unfold Builtin.Dict.dictSlotArgs
  apply wpAny_bind
  apply wpAny_notOrdered_dict ty
  show wpAny _ _ (pure (Value.ref d, Value.str z t)) _ _ s
  apply wpAny_pure
  apply wpAny_bind
  refine wpAny_isInstance (T := "str") (typeIs_str s z t) subSD ?_
  simp only [Bool.not_false, if_true]
  exact wpAny_bind (wpAny_rule (wpAny_pure ⟨_, rfl, q⟩))
theorem str_noN {z : Str} {t : Tok} {es : Array DictEntry} {ep : Nat} {E : Value → Shared → Prop} {Q : Value → Shared → Prop} (ho : s.heap.get? d = some o) (hd : o.data = .dict es ep) (q : Q .notImplemented s) :
    wpAny (model prog w) A (call (.builtin "str.__ne__") [.str z t, .ref d]) Q E s := by
  refine wpAny_call_entry PySem.F.slot_str_ne (typeIs_str s z t) PySem.F.entry_str_ne ?_ (PySem.F.args_str_ne_2 _ _)
  obtain ⟨hp, g, dr, tk, os⟩ := s
  wp_walk using wpAny_load ho
  rw [hd]
  wp_walk
  exact ⟨_, rfl, q⟩
theorem rc_txtDictN {es : Array DictEntry} {ep : Nat} {Q E : Value → Shared → Prop} (z : Str) (t : Tok) (ho : s.heap.get? d = some o) (hc : o.cls = .type "dict") (hd : o.data = .dict es ep) (hu : A.units < cLine) (q : Q (.bool true) s) :
    wpAny (model prog w) A (richCompare .NotEq (.str z t) (.ref d)) Q E s :=
  SeqAt.rc_ne_decline_or (k := false) (typeIs_str s z t) ⟨o, ho, hc⟩ (by decide) subDS PySem.F.slot_str_ne PySem.F.slot_dict_ne_refl (fun _ q => str_noN ho hd q) (fun _ q => dict_noN ho hc q) (fun _ q => wpAny_of_eq (rfl : isSame (.str z t) (.ref d) = pure false) q) (.inr hu) q
end
section
variable {X : Cx}
/-- 'text' != x -/
def rTxtNe (K : PySem.W.Frag) : R2 := fun x y H Q => ∃ (z : Str) (d : PyData), x = .str z ∧ SeqAt.shaped (.str z) = true ∧ Dq K H y d ∧ Q (.bl (!isTxt d z)) H
theorem op_txtNe (hu : X.A.units + 64 < cLine) : OpR X (compareOp .NotEq) (rTxtNe X.K) := by
  rintro pins s σ H x y v u Q I rx ry ⟨z, d, rfl, hz, q, k⟩
  cases q with
  | dat q sh =>
    refine op_neD hu pins s σ H (.str z) y v u Q I rx ry ⟨.str z, d, .str z, q, hz, sh, ?_⟩
    rw [txt_eqv]
    exact k
  | dct h =>
    cases ry
    obtain ⟨t, rfl⟩ := rx
    obtain ⟨o, es, ep, ho, hc, hd, _⟩ := dict_obj I h
    show wpAny _ _ (richCompare .NotEq _ _) _ _ _
    exact rc_txtDictN z t ho hc hd (by omega) ⟨.bl true, H, I, rfl, k⟩
end
/-! ## a kind is made -/
abbrev sKI : Stmt := meth 27 0
abbrev sKE : Stmt := meth 27 1
def namedOk (n k : PyData) : Bool := isKindName n && (isNon k || isFieldName k)
def basedOk (n b : PyData) : Bool := isNon b || (isKindName b && (match b with
  | .str z => !isTxt n z
  | _ => false))
/-- fields: the items, or none for what is no list or tuple -/
def fieldsOk : Option (List Item) → Bool
  | some its => areFields its
  | none => false
def kindRight (n : PyData) (fs : Option (List Item)) (b f h k r : PyData) : Bool := namedOk n k && basedOk n b && fieldsOk fs && canBe b f h k r
def fsK (n fs b f h k r : V) : List (Str × V) := [("name", n), ("fields", fs), ("base", b), ("frozen", f), ("heirs", h), ("key", k), ("registered", r)]
/-- an argument in the place of the fields -/
def FsAt (K : PySem.W.Frag) (CF : Addr) (H : Hp) (v : V) : Option (List Item) → Prop
  | some its => ∃ (a : Addr) (us : List V), v = .ref a ∧ (SqL K H a us ∨ SqT K H a us) ∧ Paired (ItAt K CF H) us its ∧ its.length ≤ 1000
  | none => ∃ d : PyData, Dq K H v d ∧ (isLst d || isTup d) = false
theorem FsAt.same {K : PySem.W.Frag} {CF : Addr} {H H' : Hp} {v : V} {o : Option (List Item)} (h : FsAt K CF H v o) (s : Same H H') : FsAt K CF H' v o := by
  cases o with
  | some its =>
    obtain ⟨a, us, e, sq, pr, few⟩ := h
    exact ⟨a, us, e, sq.imp (sqL_same s) (sqT_same s), L2.Paired.mapP pr fun _ _ z => z.same s, few⟩
  | none =>
    obtain ⟨d, q, no⟩ := h
    exact ⟨d, q.same s, no⟩
/-- the same, by the things that stand in it -/
def FsU (K : PySem.W.Frag) (CF : Addr) (H : Hp) (v : V) (us : List V) : Option (List Item) → Prop
  | some its => ∃ a : Addr, v = .ref a ∧ (SqL K H a us ∨ SqT K H a us) ∧ Paired (ItAt K CF H) us its ∧ its.length ≤ 1000
  | none => ∃ d : PyData, Dq K H v d ∧ (isLst d || isTup d) = false
theorem FsU.at_ {K : PySem.W.Frag} {CF : Addr} {H : Hp} {v : V} {us : List V} {o : Option (List Item)} (h : FsU K CF H v us o) : FsAt K CF H v o := by
  cases o with
  | none => exact h
  | some its =>
    obtain ⟨a, e, q⟩ := h
    exact ⟨a, us, e, q⟩
theorem FsAt.u {K : PySem.W.Frag} {CF : Addr} {H : Hp} {v : V} {o : Option (List Item)} (h : FsAt K CF H v o) : ∃ us, FsU K CF H v us o := by
  cases o with
  | none => exact ⟨[], h⟩
  | some its =>
    obtain ⟨a, us, e, q⟩ := h
    exact ⟨us, a, e, q⟩
theorem FsU.same {K : PySem.W.Frag} {CF : Addr} {H H' : Hp} {v : V} {us : List V} {o : Option (List Item)} (h : FsU K CF H v us o) (s : Same H H') : FsU K CF H' v us o := by
  cases o with
  | some its =>
    obtain ⟨a, e, sq, pr, few⟩ := h
    refine ⟨a, e, ?_, L2.Paired.mapP pr fun _ _ z => z.same s, few⟩
    rcases sq with sq | sq
    · exact .inl (sqL_same s sq)
    · exact .inr (sqT_same s sq)
  | none =>
    obtain ⟨d, q, no⟩ := h
    exact ⟨d, q.same s, no⟩
def spKI (K : PySem.W.Frag) (CF CK CB : Addr) : Sp := fun vs H Q E => ∃ (x dx : Addr) (un ufs ub uf uh uk ur : V) (n b f h k r : PyData) (o : Option (List Item)) (us : List V), vs = [.ref x, un, ufs, ub, uf, uh, uk, ur] ∧ H x = some (.ins CK dx []) ∧
  Dq K H un n ∧ FsU K CF H ufs us o ∧ Dq K H ub b ∧ Dq K H uf f ∧ Dq K H uh h ∧ Dq K H uk k ∧ Dq K H ur r ∧ Shrt n ∧ Shrt b ∧ Shrt k ∧
  (kindRight n o b f h k r = true → ∀ (H' : Hp) (tf : Addr), But x H H' → H' x = some (.ins CK dx (fsK un (.ref tf) ub uf uh uk ur)) → SqT K H' tf us → Q .non H') ∧
  (kindRight n o b f h k r = false → ∀ (H' : Hp) (e : Addr), Same H H' → H e = none → H' e = some (.xd [("name", un)]) → E (.ref CB) (some e) H')
section
variable {P : Program} {w : World} {K : PySem.W.Frag} {mg : Str → Option Value} {base : Heap}
theorem scKI : FnScope ["self", "name", "fields", "base", "frozen", "heirs", "key", "registered", "named", "based"] ["self", "name", "fields", "base", "frozen", "heirs", "key", "registered"] (defScope sKI) := ⟨rfl, rfl, rfl, by decide +kernel, rfl, by decide +kernel, by decide +kernel⟩
end
end Wp
set_option Elab.async false
set_option linter.all false
set_option maxRecDepth 100000
set_option maxHeartbeats 4000000
namespace Wp
open PySem PySem.Spec PyProof.Rows L2
/-! ## an own exception made where its context is None -/
section
variable {X : Cx} {e : Expr} {es : List Expr} {ta : TA} {p pos : Pos}
theorem pmk_oexN {CX : CXT} {x : Str} {C fI : Addr} {k : Nat} {fd : FuncData} {ps : List Str} {sp : Sp} (T : OexC X.K C) (iC : PySem.W.findIn X.K (.ref C) "__init__" = some (some (.ref fI))) (tI : PySem.W.typeIn X.K (.ref fI) = some (.type "function"))
    (F1 : FnOk X.prog X.w X.K X.mg X.base CX k fI fd ps sp) (hr : Room (k + 1) X.A) (hb : Binds X.K fd ps []) (hx : Passes CX X (fun _ _ _ => False)) (hg : Gl X x) (hm : X.mg x = some (.ref C)) (ha : PA X (e :: es) ta)
    (hdb : (x == ("__debug__" : Str)) = false := by decide) (he : starEach (e :: es) X.env = (false, eval e X.env) :: starEach es X.env := by rfl) (hpl : (backTo pos (starEach es X.env)).any (·.1) = false := by rfl) :
    L2N.PMk X (.Call (.Name x p) (e :: es) [] pos) (tMkO C sp [] ta) := by
  intro pins s σ H Q I h
  obtain ⟨nm, q, N, bs, bm, sn, sub, ab, col, dd, k0, k1, k2, k3, k5, hC, hbm⟩ := T.cls
  refine wpAny_Call_Name_kw (ld_glob I hg hm ?_ hdb)
  refine PySem.W.callWith_K (h₀ := X.base) I.ok.mod.kin T.kC (thn (ha.run pos pins s σ H _ I h) fun us s1 ⟨vs, H1, I1, r1, hz, q1⟩ => ⟨I1.kIn, ?_⟩) he hpl
  show wpAny _ _ (call (.ref C) us) _ _ _
  obtain ⟨hp, g, dr, tk, os⟩ := s1
  have hsz : hp.objs.size ≤ hp.objs.size + 1 := Nat.le_succ _
  have hn : H1 (hp.objs.size + 1) = none := I1.hok.fresh hsz
  have hq := q1 (hp.objs.size + 1) hn
  have kk : ∀ b o, hp.get? b = some o → ((hp.push (PySem.W.kdv_tup us)).push (PySem.HandSPX.excO C hp.objs.size)).get? b = some o := fun b o e => Heap.get?_push_of_some _ (Heap.get?_push_of_some _ e)
  have hget : ((hp.push (PySem.W.kdv_tup us)).push (PySem.HandSPX.excO C hp.objs.size)).get? (hp.objs.size + 1) = some (PySem.HandSPX.excO C hp.objs.size) := by heap_get
  have I2 : Inv X pins σ (upd H1 (hp.objs.size + 1) (exo (hp.objs.size + 1) C none)) ⟨(hp.push (PySem.W.kdv_tup us)).push (PySem.HandSPX.excO C hp.objs.size), g, dr, tk, os⟩ :=
    I1.laid (t' := tk) (a := hp.objs.size + 1) (o := exo (hp.objs.size + 1) C none) (h' := (hp.push (PySem.W.kdv_tup us)).push (PySem.HandSPX.excO C hp.objs.size)) kk hsz (exo_ok hget)
  have r2 : Vals (V.ref (hp.objs.size + 1) :: (vs ++ [])) (Value.ref (hp.objs.size + 1) :: (us ++ [])) := .cons rfl (r1.append .nil)
  have hl : (Value.ref (hp.objs.size + 1) :: us ++ ([] : List Value)).length = ps.length := by
    have e := r2.length
    rw [F1.len _ _ _ _ hq] at e
    exact e.symm
  have hus : us.length ≤ sizeLine := by
    rw [← Paired.length r1, sizeLine_eq]
    omega
  refine wpAny_call (PySem.HandSPX.call_own F.excBase_ValueError (fun Y => PySem.HandSPX.refsVE_contains Y bm hbm) (I1.kIn _ _ hC) (PySem.W.looks_findIn I1.kIn iC) (fun self => PySem.W.bind_fn I1.kIn self tI) hus
    (codeAny_mono (F1.run _ X.stack _ _ ⟨Value.ref (hp.objs.size + 1) :: us, []⟩ (Value.ref (hp.objs.size + 1) :: (us ++ [])) _ _ (fun _ _ _ => False) (hr.make C us []) (I2.env0.make C us []) (by simpa using hb _ (Value.ref (hp.objs.size + 1) :: us) I2.kIn hl) r2 hq) fun r s' hq' => ?_))
  cases r with
  | error er => exact hx pins σ _ _ er s' I2 hq'
  | ok fl =>
    cases fl with
    | ret u =>
      obtain ⟨v, H2, os2, bare2, un2, hok2, rv, ev, d, fs, ea, ed, hd1, q2⟩ := hq'
      subst ev
      obtain ⟨h2, g2, d2, t2, os'⟩ := s'
      obtain ⟨t0, G, J, kG, ge, hoe, na⟩ := mk_end0 (d2 := d2) (t2 := t2) I1 hsz kk un2 hok2 os2 bare2 ea ed hd1
      exact ⟨rv, ⟨_, _, _, ⟨G, g2, d2, t2, os'⟩, _, .ref C, some d, rfl, J, kG, ge, hoe, ⟨rfl, rfl, fun vs e => by cases e; rfl⟩, rfl, rfl, na, rfl, bare2, raises_own T.exC T.tyC, q2⟩⟩
    | next => exact False.elim hq'
    | brk => exact False.elim hq'
    | cont => exact False.elim hq'
end
theorem passN {P : Program} {w : World} {X : Cx} : Passes (L2N.CX P w) X E0 := fun _ _ _ _ _ _ _ ⟨_, _, _, _, _, _, _, _, _, _, _, _, h⟩ => h.elim
end Wp
set_option Elab.async false
set_option linter.all false
set_option maxRecDepth 100000
set_option maxHeartbeats 4000000
namespace Wp
open PySem L2
section
variable {K : PySem.W.Frag} {t2 : TS} {D : Ends} {σ : L2.St} {H : Hp} {un ub uk : V} {n b k : PyData}
abbrev tIsN (i : Nat) : TE := tOp (fun x y H Q => y = .non ∧ Q (.bl (decide (x = .non))) H) (tVar i) (tC .non)
theorem sq_named (e1 : σ[1]? = some (some un)) (e6 : σ[6]? = some (some uk)) (qn : Dq K H un n) (sn : Shrt n) (qk : Dq K H uk k) (sk : Shrt k) (c : ∀ H1, Same H H1 → t2 D (σ.set 8 (some (.bl (namedOk n k)))) H1) :
    tSeq (tAsg (tAndV (tCall (spIsKind K) [] E0 (tCons (tVar 1) tNil)) (tOrV (tIsN 6) (tCall (spIsField K) [] E0 (tCons (tVar 6) tNil)))) (gName 8)) t2 D σ H := by
  refine ⟨_, e1, un, n, rfl, qn, sn, fun H1 s1 => ⟨_, rfl, ?_⟩⟩
  cases h1 : isKindName n with
  | false =>
    have r := c H1 s1
    simp only [namedOk, h1, Bool.false_and] at r
    exact r
  | true =>
    refine ⟨_, e6, rfl, _, rfl, ?_⟩
    rw [qk.non]
    cases h2 : isNon k with
    | true =>
      have r := c H1 s1
      simp only [namedOk, h1, h2, Bool.true_or, Bool.true_and] at r
      exact r
    | false =>
      refine ⟨_, e6, uk, k, rfl, qk.same s1, sk, fun H2 s2 => ?_⟩
      have r := c H2 (s1.trans s2)
      simp only [namedOk, h1, h2, Bool.false_or, Bool.true_and] at r
      exact r
theorem sq_based (e1 : σ[1]? = some (some un)) (e3 : σ[3]? = some (some ub)) (qn : Dq K H un n) (qb : Dq K H ub b) (sb : Shrt b) (c : ∀ H1, Same H H1 → t2 D (σ.set 9 (some (.bl (basedOk n b)))) H1) :
    tSeq (tAsg (tOrV (tIsN 3) (tAndV (tCall (spIsKind K) [] E0 (tCons (tVar 3) tNil)) (tOp (rTxtNe K) (tVar 3) (tVar 1)))) (gName 9)) t2 D σ H := by
  refine ⟨_, e3, rfl, _, rfl, ?_⟩
  rw [qb.non]
  cases h1 : isNon b with
  | true =>
    have r := c H (Same.refl _)
    simp only [basedOk, h1, Bool.true_or] at r
    exact r
  | false =>
    refine ⟨_, e3, ub, b, rfl, qb, sb, fun H1 s1 => ⟨_, rfl, ?_⟩⟩
    cases h2 : isKindName b with
    | false =>
      have r := c H1 s1
      simp only [basedOk, h1, h2, Bool.false_or, Bool.false_and] at r
      exact r
    | true =>
      obtain ⟨z, rfl⟩ : ∃ z, b = .str z := by
        cases b <;> first | exact ⟨_, rfl⟩ | exact absurd h2 (by simp [isKindName])
      obtain rfl := qb.str_of
      have sz : SeqAt.shaped (.str z) = true := by
        cases qb with
        | dat _ sh => exact sh
      refine ⟨_, e3, _, e1, z, n, rfl, sz, qn.same s1, ?_⟩
      have r := c H1 s1
      simp only [basedOk, h1, h2, Bool.false_or, Bool.true_and] at r
      exact r
end
section
variable {P : Program} {w : World} {K : PySem.W.Frag} {mg : Str → Option Value} {base : Heap}
theorem ok_KI {params : Arguments} {f f1 f2 f3 f4 CF CK CB fB : Addr} {fd fd1 fd2 fd3 fd4 fdB : FuncData} {kws : List (Str × V)} (F : FunD K "__init__" "Kind.__init__" params (defBody sKI) (defScope sKI) [] kws f fd) (B : Bn mg)
    (NK : Known P w K mg base CX0 1 "is_kind_name" ["value"] (spIsKind K) f1 fd1) (NF : Known P w K mg base CX0 2 "is_field_name" ["value"] (spIsField K) f2 fd2) (AF : Known P w K mg base CX0 2 "_are_fields" ["fields"] (spAF K CF) f3 fd3)
    (CC : Known P w K mg base CX0 1 "_can_be" ["base", "frozen", "heirs", "key", "registered"] (spCB K) f4 fd4) (M : Mk1 P w K mg base "BadKind" "name" CB fB fdB) (C : PlainC K CK ["name", "fields", "base", "frozen", "heirs", "key", "registered"]) :
    FnOk P w K mg base (L2N.CX P w) 3 f fd ["self", "name", "fields", "base", "frozen", "heirs", "key", "registered"] (spKI K CF CK CB) := by
  refine F.ok scKI (fun vs H Q E h => ?_) (fun cdv A outer s H vs Q E hr h => ?_)
  · obtain ⟨x, dx, un, ufs, ub, uf, uh, uk, ur, n, b, f, h, k, r, o, us, rfl, _⟩ := h
    rfl
  · obtain ⟨x, dx, un, ufs, ub, uf, uh, uk, ur, n, b, f, hh, k, r, o, us, rfl, hx, qn, qo, qb, qf, qh, qk, qr, sn, sb, sk, k1, k2⟩ := h
    refine ⟨_, pss_cons (ps_set (i := 8) scKI.nd rfl (.inl rfl) (pe_and (pe_call NK.ok (hr.mono (by decide)) rfl NK.mg NK.kp NK.bi .nil pass0 (pa_cons (pv 1) pa_nil))
          (pe_one (pe_or (pe_cmpR op_isN (pv 6) pe_non (nomark _)) (pe_one (pe_call NF.ok hr rfl NF.mg NF.kp NF.bi .nil pass0 (pa_cons (pv 6) pa_nil)))))))
      (pss_cons (ps_set (i := 9) scKI.nd rfl (.inl rfl) (pe_or (pe_cmpR op_isN (pv 3) pe_non (nomark _)) (pe_one (pe_and (pe_call NK.ok (hr.mono (by decide)) rfl NK.mg NK.kp NK.bi .nil pass0 (pa_cons (pv 3) pa_nil))
          (pe_one (pe_cmpR (op_txtNe hr.units) (pv 3) (pv 1) (nomark _)))))))
      (pss_cons (ps_if (PW.pt (pw_or (pt_not (pt_val (pv 8))) (pw_or (pt_not (pt_val (pv 9))) (pw_or (pt_not (pt_val (pe_call AF.ok hr rfl AF.mg AF.kp AF.bi .nil pass0 (pa_cons (pv 2) pa_nil))))
          (pw_or1 (pt_not (pt_val (pe_call CC.ok (hr.mono (by decide)) rfl CC.mg CC.kp CC.bi .nil pass0 (pa_cons (pv 3) (pa_cons (pv 4) (pa_cons (pv 5) (pa_cons (pv 6) (pa_cons (pv 7) pa_nil))))))))))))) 
        (pss_one (L2N.ps_raise rfl (L2N.takes_of rfl rfl rfl rfl) (pmk_oexN M.T M.iC M.tI M.FI (hr.mono (by decide)) M.bI pass0 (by rfl) M.gC (pa_cons (pv 1) pa_nil)))) pss_nil)
      (pss_cons (ps_fld (pv 0) (pv 1) rfl)
      (pss_cons (ps_fld (pv 0) (pe_callTy call_tuple_of (by rfl) B.tuple boot_ttuple (pa_cons (pv 2) pa_nil)) rfl)
      (pss_cons (ps_fld (pv 0) (pv 3) rfl)
      (pss_cons (ps_fld (pv 0) (pv 4) rfl)
      (pss_cons (ps_fld (pv 0) (pv 5) rfl)
      (pss_cons (ps_fld (pv 0) (pv 6) rfl)
      (pss_one (ps_fld (pv 0) (pv 7) rfl)))))))))), ?_⟩
    have r0 : ∀ H1, Same H H1 → kindRight n o b f hh k r = false → [un].length ≤ 1000 ∧ ∀ a, H1 a = none → spI1 CB "name" (.ref a :: ([un] ++ [])) (upd H1 a (exo a CB none))
        (fun u H2 => u = .non ∧ ∃ (d : Addr) (fs : List (Str × V)), H2 a = some (exo a CB (some d)) ∧ H2 d = some (exd d fs) ∧ H1 d = none ∧ E (.ref CB) (some d) (upd (L2.del H2 a) d (.xd fs))) (fun _ _ _ => False) :=
      fun H1 s1 bad => rs1 (Q := E) fun d0 nd => k2 bad _ d0 (s1.trans (same_new nd)) (none_of s1 nd) upd_same
    refine sq_named (by rfl) (by rfl) qn sn qk sk fun H1 s1 => ?_
    refine sq_based (by rfl) (by rfl) (qn.same s1) (qb.same s1) sb fun H2 s2 => ?_
    have s12 := s1.trans s2
    refine ⟨_, rfl, _, rfl, ?_⟩
    cases hN : namedOk n k with
    | false => exact ⟨un, rfl, r0 H2 s12 (by simp only [kindRight, hN, Bool.false_and])⟩
    | true =>
      refine ⟨_, rfl, _, rfl, ?_⟩
      cases hB : basedOk n b with
      | false => exact ⟨un, rfl, r0 H2 s12 (by simp only [kindRight, hN, hB, Bool.false_and, Bool.and_false])⟩
      | true =>
        have hAF : ∀ (Q' : VK) (E' : XK), (∀ H3, Same H2 H3 → Q' (.bl (fieldsOk o)) H3) → spAF K CF [ufs] H2 Q' E' := by
          intro Q' E' c
          have q := (qo.same s12).at_
          cases o with
          | some its =>
            obtain ⟨a, us, e, sq, pr, few⟩ := q
            exact ⟨ufs, rfl, .inl ⟨a, us, its, e, sq, pr, few, c⟩⟩
          | none =>
            obtain ⟨d, q, no⟩ := q
            exact ⟨ufs, rfl, .inr ⟨d, q, no, c⟩⟩
        refine ⟨_, rfl, ?_⟩
        dsimp only [tNil, List.append_nil]
        refine hAF _ _ fun H3 s3 => ⟨_, rfl, ?_⟩
        have s123 := s12.trans s3
        cases hF : fieldsOk o with
        | false => exact ⟨un, rfl, r0 H3 s123 (by simp only [kindRight, hN, hB, hF, Bool.false_and, Bool.and_false])⟩
        | true =>
          refine ⟨_, rfl, _, rfl, _, rfl, _, rfl, _, rfl, ub, uf, uh, uk, ur, b, f, hh, k, r, rfl, qb.same s123, qf.same s123, qh.same s123, qk.same s123, qr.same s123, fun H4 s4 => ⟨_, rfl, ?_⟩⟩
          have s14 := s123.trans s4
          cases hC : canBe b f hh k r with
          | false => exact ⟨un, rfl, r0 H4 s14 (by simp only [kindRight, hC, Bool.and_false])⟩
          | true =>
            have right : kindRight n o b f hh k r = true := by simp only [kindRight, hN, hB, hF, hC, Bool.and_true]
            have hx4 := s14 _ _ hx
            obtain ⟨its, rfl⟩ : ∃ its, o = some its := by
              cases o with
              | none => cases hF
              | some its => exact ⟨its, rfl⟩
            obtain ⟨a, rfl, sq0, pr, few⟩ := qo
            refine ⟨_, rfl, _, rfl, x, CK, dx, _, rfl, hx4, C.cl, C.no _ (by simp), (by decide), ?_⟩
            refine ⟨_, rfl, a, us, rfl, ?_⟩
            have fin : ∀ (tf : Addr) (H5 : Hp), (∃ fs, H5 x = some (.ins CK dx fs)) → But x H H5 → SqT K H5 tf us → Q .non (upd H5 x (.ins CK dx (fsK un (.ref tf) ub uf uh uk ur))) := by
              rintro tf H5 ⟨fs, e9⟩ b5 sT
              refine k1 right _ tf (fun b o ne e => ?_) upd_same (sqT_off sT e9)
              rw [upd_ne ne]
              exact b5 b o ne e
            rcases sq0 with sq0 | sq0
            · have sq := sqL_same s14 sq0
              refine .inl ⟨sqL_off sq hx4, fun l hl => ?_⟩
              have nl : l ≠ x := fun z => by rw [z, upd_same] at hl; cases hl
              have hl4 : H4 l = none := by rw [upd_ne nl] at hl; exact hl
              refine ⟨_, rfl, x, CK, dx, _, rfl, (upd_ne (Ne.symm nl)).trans upd_same, C.cl, C.no _ (by simp), (by show 1 < 1000; decide), ?_⟩
              refine ⟨_, rfl, _, rfl, x, CK, dx, _, rfl, upd_same, C.cl, C.no _ (by simp), (by show 2 < 1000; decide), ?_⟩
              refine ⟨_, rfl, _, rfl, x, CK, dx, _, rfl, upd_same, C.cl, C.no _ (by simp), (by show 3 < 1000; decide), ?_⟩
              refine ⟨_, rfl, _, rfl, x, CK, dx, _, rfl, upd_same, C.cl, C.no _ (by simp), (by show 4 < 1000; decide), ?_⟩
              refine ⟨_, rfl, _, rfl, x, CK, dx, _, rfl, upd_same, C.cl, C.no _ (by simp), (by show 5 < 1000; decide), ?_⟩
              refine ⟨_, rfl, _, rfl, x, CK, dx, _, rfl, upd_same, C.cl, C.no _ (by simp), (by show 6 < 1000; decide), ?_⟩
              rw [upd_upd, upd_upd, upd_upd, upd_upd, upd_upd]
              refine fin l _ ⟨_, (upd_ne (Ne.symm nl)).trans upd_same⟩ (fun b o ne e => ?_) (SqT.of upd_same)
              have e1 := s14 b o e
              rw [upd_ne (ne_of_none e1 hl4), upd_ne ne]
              exact e1
            · have sq := sqT_same s14 sq0
              refine .inr ⟨sqT_off sq hx4, ?_⟩
              refine ⟨_, rfl, x, CK, dx, _, rfl, upd_same, C.cl, C.no _ (by simp), (by show 1 < 1000; decide), ?_⟩
              refine ⟨_, rfl, _, rfl, x, CK, dx, _, rfl, upd_same, C.cl, C.no _ (by simp), (by show 2 < 1000; decide), ?_⟩
              refine ⟨_, rfl, _, rfl, x, CK, dx, _, rfl, upd_same, C.cl, C.no _ (by simp), (by show 3 < 1000; decide), ?_⟩
              refine ⟨_, rfl, _, rfl, x, CK, dx, _, rfl, upd_same, C.cl, C.no _ (by simp), (by show 4 < 1000; decide), ?_⟩
              refine ⟨_, rfl, _, rfl, x, CK, dx, _, rfl, upd_same, C.cl, C.no _ (by simp), (by show 5 < 1000; decide), ?_⟩
              refine ⟨_, rfl, _, rfl, x, CK, dx, _, rfl, upd_same, C.cl, C.no _ (by simp), (by show 6 < 1000; decide), ?_⟩
              rw [upd_upd, upd_upd, upd_upd, upd_upd, upd_upd]
              rw [upd_upd]
              exact fin a H4 ⟨_, hx4⟩ (fun b o ne e => s14 b o e) sq
end
end Wp
set_option Elab.async false
set_option linter.all false
set_option maxRecDepth 100000
set_option maxHeartbeats 4000000
namespace Wp
open PySem L2
/-! ## two kinds are compared -/
/-- a kind's parts; c: how many fields -/
structure KV where
  n : Str
  c : Nat
  b : Option Str
  f : Bool
  h : Bool
  k : Option Str
  r : Bool
deriving DecidableEq
theorem kv_dec {v u : KV} (e0 : v.n = u.n) (e1 : v.c = u.c) (e2 : v.b = u.b) (e3 : v.f = u.f) (e4 : v.h = u.h) (e5 : v.k = u.k) : decide (V.bl v.r = V.bl u.r) = decide (v = u) := by
  cases v
  cases u
  simp only at e0 e1 e2 e3 e4 e5
  subst e0 e1 e2 e3 e4 e5
  simp
structure KindAt (K : PySem.W.Frag) (CK : Addr) (H : Hp) (a : Addr) (v : KV) (xs : List Addr) : Prop where
  ex : ∃ dx tf, H a = some (.ins CK dx (fsK (.str v.n) (.ref tf) (tv v.b) (.bl v.f) (.bl v.h) (tv v.k) (.bl v.r))) ∧ SqT K H tf (xs.map V.ref)
  len : xs.length = v.c
theorem KindAt.same {K : PySem.W.Frag} {CK : Addr} {H H' : Hp} {a : Addr} {v : KV} {xs : List Addr} (h : KindAt K CK H a v xs) (s : Same H H') : KindAt K CK H' a v xs := by
  obtain ⟨⟨dx, tf, e, sq⟩, l⟩ := h
  exact ⟨⟨dx, tf, s _ _ e, sqT_same s sq⟩, l⟩
theorem nk_fields_name : (("fields" : Str) == "name") = false := by decide +kernel
theorem nk_base_name : (("base" : Str) == "name") = false := by decide +kernel
theorem nk_base_fields : (("base" : Str) == "fields") = false := by decide +kernel
theorem nk_frozen_name : (("frozen" : Str) == "name") = false := by decide +kernel
theorem nk_frozen_fields : (("frozen" : Str) == "fields") = false := by decide +kernel
theorem nk_frozen_base : (("frozen" : Str) == "base") = false := by decide +kernel
theorem nk_heirs_name : (("heirs" : Str) == "name") = false := by decide +kernel
theorem nk_heirs_fields : (("heirs" : Str) == "fields") = false := by decide +kernel
theorem nk_heirs_base : (("heirs" : Str) == "base") = false := by decide +kernel
theorem nk_heirs_frozen : (("heirs" : Str) == "frozen") = false := by decide +kernel
theorem nk_key_name : (("key" : Str) == "name") = false := by decide +kernel
theorem nk_key_fields : (("key" : Str) == "fields") = false := by decide +kernel
theorem nk_key_base : (("key" : Str) == "base") = false := by decide +kernel
theorem nk_key_frozen : (("key" : Str) == "frozen") = false := by decide +kernel
theorem nk_key_heirs : (("key" : Str) == "heirs") = false := by decide +kernel
theorem nk_registered_name : (("registered" : Str) == "name") = false := by decide +kernel
theorem nk_registered_fields : (("registered" : Str) == "fields") = false := by decide +kernel
theorem nk_registered_base : (("registered" : Str) == "base") = false := by decide +kernel
theorem nk_registered_frozen : (("registered" : Str) == "frozen") = false := by decide +kernel
theorem nk_registered_heirs : (("registered" : Str) == "heirs") = false := by decide +kernel
theorem nk_registered_key : (("registered" : Str) == "key") = false := by decide +kernel
theorem lk_ks (n fs b f h k r : V) : List.lookup ("name" : Str) (fsK n fs b f h k r) = some n ∧ List.lookup ("fields" : Str) (fsK n fs b f h k r) = some fs ∧ List.lookup ("base" : Str) (fsK n fs b f h k r) = some b ∧ List.lookup ("frozen" : Str) (fsK n fs b f h k r) = some f ∧ List.lookup ("heirs" : Str) (fsK n fs b f h k r) = some h ∧ List.lookup ("key" : Str) (fsK n fs b f h k r) = some k ∧ List.lookup ("registered" : Str) (fsK n fs b f h k r) = some r := by
  simp [fsK, List.lookup, nk_fields_name, nk_base_name, nk_base_fields, nk_frozen_name, nk_frozen_fields, nk_frozen_base, nk_heirs_name, nk_heirs_fields, nk_heirs_base, nk_heirs_frozen, nk_key_name, nk_key_fields, nk_key_base, nk_key_frozen, nk_key_heirs, nk_registered_name, nk_registered_fields, nk_registered_base, nk_registered_frozen, nk_registered_heirs, nk_registered_key]
/-- a kind beside a kind with the same fields in front, or beside a text -/
def spKE (K : PySem.W.Frag) (CK : Addr) : Sp := fun vs H Q _ => ∃ (a : Addr) (y : V) (v : KV) (xs : List Addr), vs = [.ref a, y] ∧ KindAt K CK H a v xs ∧
  ((∃ (b : Addr) (u : KV) (ys : List Addr), y = .ref b ∧ KindAt K CK H b u ys ∧ (∀ (i : Nat) (h1 : i < xs.length) (h2 : i < ys.length), xs[i] = ys[i]) ∧ Q (.bl (decide (v = u))) H) ∨ (∃ z : Str, y = .str z ∧ Q (.bl false) H))
section
variable {P : Program} {w : World} {K : PySem.W.Frag} {mg : Str → Option Value} {base : Heap}
theorem scKE : FnScope ["self", "other"] ["self", "other"] (defScope sKE) := ⟨rfl, rfl, rfl, by decide +kernel, rfl, by decide +kernel, by decide +kernel⟩
theorem ok_KE {f CK : Addr} {fd : FuncData} (F : Fun K "__eq__" "Kind.__eq__" sKE f fd) (B : Bn mg) (O : OwnC K CK) (C : PlainC K CK ["name", "fields", "base", "frozen", "heirs", "key", "registered"]) (g : mg "Kind" = some (.ref CK)) :
    FnOk P w K mg base CX0 1 f fd ["self", "other"] (spKE K CK) := by
  refine F.ok scKE (fun vs H Q E h => ?_) (fun cdv A outer s H vs Q E hr h => ?_)
  · obtain ⟨a, y, v, xs, rfl, _⟩ := h
    rfl
  · obtain ⟨a, y, v, xs, rfl, fa, h⟩ := h
    refine ⟨_, pss_one (ps_ret (pe_and (pe_callB call_isi (by rfl) B.isi boot_isi (pa_cons (pv 1) (pa_cons (pe_glob (v := .ref CK) (by rfl) g rfl) pa_nil)))
      (pe_and (pe_cmpR op_eq (pe_fld (pv 0) rfl) (pe_fld (pv 1) rfl) (nomark _))
      (pe_and (pe_cmpR (op_eqSame hr.units0) (pe_fld (pv 0) rfl) (pe_fld (pv 1) rfl) (nomark _))
      (pe_and (pe_cmpR op_eq (pe_fld (pv 0) rfl) (pe_fld (pv 1) rfl) (nomark _))
      (pe_and (pe_cmpR op_eq (pe_fld (pv 0) rfl) (pe_fld (pv 1) rfl) (nomark _))
      (pe_and (pe_cmpR op_eq (pe_fld (pv 0) rfl) (pe_fld (pv 1) rfl) (nomark _))
      (pe_and (pe_cmpR op_eq (pe_fld (pv 0) rfl) (pe_fld (pv 1) rfl) (nomark _))
      (pe_one (pe_cmpR op_eq (pe_fld (pv 0) rfl) (pe_fld (pv 1) rfl) (nomark _)))))))))) ), ?_⟩
    rcases h with ⟨b, u, ys, rfl, fb, same, k⟩ | ⟨z, rfl, k⟩
    · obtain ⟨dx, tf, ha, sx⟩ := fa.ex
      obtain ⟨dy, ug, hb, sy⟩ := fb.ex
      have lx := fa.len
      have ly := fb.len
      refine ⟨_, rfl, .ref b, .ref CK, .ref CK, .ref CK, true, rfl, .own CK, O.ty hb, O.self, _, rfl, ?_⟩
      have no : v ≠ u → Q (.bl false) H := fun ne => by
        rw [decide_eq_false ne] at k
        exact k
      refine ⟨_, rfl, a, CK, dx, _, _, rfl, ha, C.cl, C.no _ (by simp), (lk_ks _ _ _ _ _ _ _).1, _, rfl, b, CK, dy, _, _, rfl, hb, C.cl, C.no _ (by simp), (lk_ks _ _ _ _ _ _ _).1, rfl, _, rfl, ?_⟩
      by_cases e0 : ¬ v.n = u.n
      · rw [decide_eq_false (p := V.str v.n = V.str u.n) fun z => e0 (by injection z)]
        exact no fun z => e0 (z ▸ rfl)
      have e0 := Decidable.of_not_not e0
      rw [decide_eq_true (p := V.str v.n = V.str u.n) (by rw [e0])]
      refine ⟨_, rfl, a, CK, dx, _, _, rfl, ha, C.cl, C.no _ (by simp), (lk_ks _ _ _ _ _ _ _).2.1, _, rfl, b, CK, dy, _, _, rfl, hb, C.cl, C.no _ (by simp), (lk_ks _ _ _ _ _ _ _).2.1, tf, ug, xs, ys, rfl, rfl, sx, sy, same, _, rfl, ?_⟩
      by_cases e1 : ¬ v.c = u.c
      · have e1' : ¬ xs.length = ys.length := by omega
        rw [decide_eq_false e1']
        exact no fun z => e1 (z ▸ rfl)
      have e1 := Decidable.of_not_not e1
      rw [decide_eq_true (p := xs.length = ys.length) (by omega)]
      refine ⟨_, rfl, a, CK, dx, _, _, rfl, ha, C.cl, C.no _ (by simp), (lk_ks _ _ _ _ _ _ _).2.2.1, _, rfl, b, CK, dy, _, _, rfl, hb, C.cl, C.no _ (by simp), (lk_ks _ _ _ _ _ _ _).2.2.1, scal_tv _ _, _, rfl, ?_⟩
      by_cases e2 : ¬ v.b = u.b
      · rw [decide_eq_false (p := tv v.b = tv u.b) fun z => e2 (tv_inj z)]
        exact no fun z => e2 (z ▸ rfl)
      have e2 := Decidable.of_not_not e2
      rw [decide_eq_true (p := tv v.b = tv u.b) (by rw [e2])]
      refine ⟨_, rfl, a, CK, dx, _, _, rfl, ha, C.cl, C.no _ (by simp), (lk_ks _ _ _ _ _ _ _).2.2.2.1, _, rfl, b, CK, dy, _, _, rfl, hb, C.cl, C.no _ (by simp), (lk_ks _ _ _ _ _ _ _).2.2.2.1, rfl, _, rfl, ?_⟩
      by_cases e3 : ¬ v.f = u.f
      · rw [decide_eq_false (p := V.bl v.f = V.bl u.f) fun z => e3 (by injection z)]
        exact no fun z => e3 (z ▸ rfl)
      have e3 := Decidable.of_not_not e3
      rw [decide_eq_true (p := V.bl v.f = V.bl u.f) (by rw [e3])]
      refine ⟨_, rfl, a, CK, dx, _, _, rfl, ha, C.cl, C.no _ (by simp), (lk_ks _ _ _ _ _ _ _).2.2.2.2.1, _, rfl, b, CK, dy, _, _, rfl, hb, C.cl, C.no _ (by simp), (lk_ks _ _ _ _ _ _ _).2.2.2.2.1, rfl, _, rfl, ?_⟩
      by_cases e4 : ¬ v.h = u.h
      · rw [decide_eq_false (p := V.bl v.h = V.bl u.h) fun z => e4 (by injection z)]
        exact no fun z => e4 (z ▸ rfl)
      have e4 := Decidable.of_not_not e4
      rw [decide_eq_true (p := V.bl v.h = V.bl u.h) (by rw [e4])]
      refine ⟨_, rfl, a, CK, dx, _, _, rfl, ha, C.cl, C.no _ (by simp), (lk_ks _ _ _ _ _ _ _).2.2.2.2.2.1, _, rfl, b, CK, dy, _, _, rfl, hb, C.cl, C.no _ (by simp), (lk_ks _ _ _ _ _ _ _).2.2.2.2.2.1, scal_tv _ _, _, rfl, ?_⟩
      by_cases e5 : ¬ v.k = u.k
      · rw [decide_eq_false (p := tv v.k = tv u.k) fun z => e5 (tv_inj z)]
        exact no fun z => e5 (z ▸ rfl)
      have e5 := Decidable.of_not_not e5
      rw [decide_eq_true (p := tv v.k = tv u.k) (by rw [e5])]
      refine ⟨_, rfl, a, CK, dx, _, _, rfl, ha, C.cl, C.no _ (by simp), (lk_ks _ _ _ _ _ _ _).2.2.2.2.2.2, _, rfl, b, CK, dy, _, _, rfl, hb, C.cl, C.no _ (by simp), (lk_ks _ _ _ _ _ _ _).2.2.2.2.2.2, rfl, ?_⟩
      rw [show decide (V.bl v.r = V.bl u.r) = decide (v = u) from kv_dec e0 e1 e2 e3 e4 e5]
      exact k
    · exact ⟨_, rfl, .str z, .ref CK, .type "str", .ref CK, false, rfl, .own CK, .base (.str z), O.other (.str z), _, rfl, k⟩
end
end Wp
set_option Elab.async false
set_option linter.all false
set_option maxRecDepth 100000
set_option maxHeartbeats 4000000
namespace Wp
open PySem L2
/-! ## the pen goes on -/
def Pn (p c : Addr) (ns : List Int) (H : Hp) : Prop := ∃ a r d m t, PenAt H p c ns a r d m t
/-- the pen has written on; all else is as it was -/
structure Go (p c : Addr) (ns : List Int) (H H' : Hp) : Prop where
  but : But p H H'
  pn : Pn p c ns H'
theorem But.refl (p : Addr) (H : Hp) : But p H H := fun _ _ _ e => e
theorem But.trans {p : Addr} {H H1 H2 : Hp} (a : But p H H1) (b : But p H1 H2) : But p H H2 := fun c o n e => b c o n (a c o n e)
theorem Go.refl {p c : Addr} {ns : List Int} {H : Hp} (h : Pn p c ns H) : Go p c ns H H := ⟨But.refl p H, h⟩
theorem Go.trans {p c : Addr} {ns : List Int} {H H1 H2 : Hp} (a : Go p c ns H H1) (b : Go p c ns H1 H2) : Go p c ns H H2 := ⟨a.but.trans b.but, b.pn⟩
theorem Pn.same {p c : Addr} {ns : List Int} {H H' : Hp} (h : Pn p c ns H) (s : Same H H') : Pn p c ns H' := by
  obtain ⟨a, r, d, m, t, S⟩ := h
  exact ⟨a, r, d, m, t, s _ _ S.pd, s _ _ S.cl, S.a0, S.m0, S.m1⟩
theorem Go.of {p c : Addr} {ns : List Int} {H H' : Hp} (h : Pn p c ns H) (s : Same H H') : Go p c ns H H' := ⟨fun b o _ e => s b o e, h.same s⟩
theorem Go.new {p c a : Addr} {ns : List Int} {H : Hp} {o : HO} (h : Pn p c ns H) (n : H a = none) : Go p c ns H (upd H a o) := Go.of h (same_new n)
section
variable {K : PySem.W.Frag} {p c : Addr} {ns : List Int} {H H' : Hp}
theorem Go.ne {a : Addr} {o : HO} (h : Pn p c ns H) (e : H a = some o) (n : ∀ x : Addr × Int × Int × Int × Int × Int, o ≠ .dK (penD x.1 x.2.1 x.2.2.1 x.2.2.2.1 x.2.2.2.2.1 x.2.2.2.2.2)) : a ≠ p := by
  obtain ⟨a1, r, d, m, t, S⟩ := h
  exact ne_of e S.pd (n (c, a1, r, d, m, t))
theorem Go.sqL (g : Go p c ns H H') (h : Pn p c ns H) {a : Addr} {xs : List V} (q : SqL K H a xs) : SqL K H' a xs := by
  rcases q with (q | ⟨o, q⟩) | q
  · exact .inl (.inl (g.but _ _ (Go.ne h q (by intro x z; cases z)) q))
  · exact .inl (.inr ⟨o, g.but _ _ (Go.ne h q (by intro x z; cases z)) q⟩)
  · exact .inr q
theorem Go.sqT (g : Go p c ns H H') (h : Pn p c ns H) {a : Addr} {xs : List V} (q : SqT K H a xs) : SqT K H' a xs := by
  rcases q with (q | ⟨o, q⟩) | q
  · exact .inl (.inl (g.but _ _ (Go.ne h q (by intro x z; cases z)) q))
  · exact .inl (.inr ⟨o, g.but _ _ (Go.ne h q (by intro x z; cases z)) q⟩)
  · exact .inr q
mutual
theorem Go.dp (g : Go p c ns H H') (h : Pn p c ns H) : ∀ {v : V} {d : PyData}, Dp K H v d → Dp K H' v d
  | _, _, .non => .non
  | _, _, .bl b => .bl b
  | _, _, .int i => .int i
  | _, _, .str x => .str x
  | _, _, .lst s a => .lst (g.sqL h s) (Go.dpAll g h a)
  | _, _, .tup s a => .tup (g.sqT h s) (Go.dpAll g h a)
theorem Go.dpAll (g : Go p c ns H H') (h : Pn p c ns H) : ∀ {vs : List V} {ds : List PyData}, DpAll K H vs ds → DpAll K H' vs ds
  | _, _, .nil => .nil
  | _, _, .cons a b => .cons (Go.dp g h a) (Go.dpAll g h b)
end
theorem Go.dq (g : Go p c ns H H') (h : Pn p c ns H) {v : V} {d : PyData} (q : Dq K H v d) : Dq K H' v d := by
  cases q with
  | dat q sh => exact .dat (g.dp h q) sh
  | dct e => exact .dct (g.but _ _ (Go.ne h e (by intro x z; simp [penD] at z)) e)
theorem Go.field {CF a : Addr} {v : FV} (g : Go p c ns H H') (h : Pn p c ns H) (q : FieldAt K CF H a v) : FieldAt K CF H' a v := by
  obtain ⟨⟨dx, tw, e, sq⟩, sh⟩ := q
  exact ⟨⟨dx, tw, g.but _ _ (Go.ne h e (by intro x z; cases z)) e, g.sqT h sq⟩, sh⟩
theorem Go.item {CF : Addr} {u : V} {i : Item} (g : Go p c ns H H') (h : Pn p c ns H) (q : ItAt K CF H u i) : ItAt K CF H' u i := by
  cases i with
  | f v =>
    obtain ⟨a, e, q⟩ := q
    exact ⟨a, e, g.field h q⟩
  | d x => exact g.dq h (show Dq K H u x from q)
/-- a number is drawn -/
theorem take_go {Q : VK} {E : XK} {b : Int} (h : Pn p c ns H) (b0 : 0 < b) (b1 : b < 2 ^ 60) (k : ∀ v H', 0 ≤ v → v < b → Go p c ns H H' → Q (.int v) H') : spTake [.ref p, .int b] H Q E := by
  obtain ⟨a, r, d, m, t, S⟩ := h
  refine ⟨p, c, ns, a, r, d, m, t, b, rfl, S, b0, b1, fun v a' r' d' m' t' v0 v1 ha hm hm2 => k v _ v0 v1 ⟨fun b o n e => ?_, ⟨a', r', d', m', t', S.set ha hm hm2⟩⟩⟩
  rw [upd_ne n]
  exact e
/-- one of a menu is drawn -/
theorem one_go {Q : VK} {E : XK} {q : Addr} {xs : List V} (h : Pn p c ns H) (sq : SqL K H q xs) (l0 : 0 < xs.length) (l1 : xs.length ≤ 1000) (k : ∀ x H', x ∈ xs → Go p c ns H H' → Q x H') : spOne K [.ref p, .ref q] H Q E := by
  obtain ⟨a, r, d, m, t, S⟩ := h
  refine ⟨p, c, q, ns, a, r, d, m, t, xs, rfl, S, sq, l0, l1, fun x a' r' d' m' t' hx ha hm hm2 => k x _ hx ⟨fun b o n e => ?_, ⟨a', r', d', m', t', S.set ha hm hm2⟩⟩⟩
  rw [upd_ne n]
  exact e
end
end Wp
set_option Elab.async false
set_option linter.all false
set_option maxRecDepth 100000
set_option maxHeartbeats 4000000
namespace Wp
open PySem L2
/-! ## what the law asks of names by itself -/
section
variable {P : Program} {w : World} {K : PySem.W.Frag} {mg : Str → Option Value} {base : Heap}
abbrev lInt : Stmt := top 37
theorem scLInt : FnScope ["_law_thing"] ["_law_thing"] (defScope lInt) := ⟨rfl, rfl, rfl, by decide +kernel, rfl, by decide +kernel, by decide +kernel⟩
theorem ok_lInt {f : Addr} {fd : FuncData} (F : Fun K "_law_is_integer" "_law_is_integer" lInt f fd) (B : Bn mg) : FnOk P w K mg base CX0 1 f fd ["_law_thing"] (spIsInt K) := by
  refine F.ok scLInt (fun vs H Q E h => ?_) (fun cdv A outer s H vs Q E hr h => ?_)
  · obtain ⟨v, d, rfl, _⟩ := h
    rfl
  · obtain ⟨v, d, rfl, q, k⟩ := h
    refine ⟨_, pss_one (ps_ret (pe_and (pe_callB call_isi (by rfl) B.isi boot_isi (pa_cons (pv 0) (pa_cons (pe_bltn (v := .ty "int") (by rfl) B.int boot_tint rfl) pa_nil)))
      (pe_one (pe_not (pe_callB call_isi (by rfl) B.isi boot_isi (pa_cons (pv 0) (pa_cons (pe_bltn (v := .ty "bool") (by rfl) B.bool boot_tbool rfl) pa_nil))))))), ?_⟩
    refine ⟨_, rfl, _, _, _, _, _, rfl, .ty "int", q.ty, kit_int d, _, rfl, ?_⟩
    cases d <;> first | exact k | skip
    all_goals
      refine ⟨_, rfl, _, _, _, _, _, rfl, .ty "bool", q.ty, kit_bool _, _, rfl, ?_⟩
      exact k
abbrev lLet : Stmt := top 43
def spLet : Sp := fun vs H Q _ => ∃ x : Str, vs = [.str x] ∧ x.length ≤ 1000 ∧ ∀ H', Same H H' → Q (.bl (lettersIn smallS x)) H'
theorem scLLet : FnScope ["_law_text", "_law_sign"] ["_law_text"] (defScope lLet) := ⟨rfl, rfl, rfl, by decide +kernel, rfl, by decide +kernel, by decide +kernel⟩
theorem filter_nil (l : List Nat) (z : List Nat) : (l.filter fun c => !decide (c ∈ z)) = [] ↔ (l.all fun c => decide (c ∈ z)) = true := by
  rw [List.filter_eq_nil_iff, List.all_eq_true]
  refine forall_congr' fun c => forall_congr' fun _ => ?_
  simp
theorem ok_lLet {f : Addr} {fd : FuncData} (F : Fun K "_law_letters" "_law_letters" lLet f fd) (B : Bn mg) : FnOk P w K mg base CX0 1 f fd ["_law_text"] spLet := by
  refine F.ok scLLet (fun vs H Q E h => ?_) (fun cdv A outer s H vs Q E hr h => ?_)
  · obtain ⟨v, rfl, _⟩ := h
    rfl
  · obtain ⟨x, rfl, few, k⟩ := h
    refine ⟨_, pss_one (ps_ret (pe_cmpR op_eq (pe_callB call_len_seq (by rfl) B.len PySem.boot_len (pa_cons (pe_lc (own := [("_law_sign", 1)]) (g := gName 1) rfl scLLet.nd (pi_str (pv 0))
        (blkOk_by (N := ["_law_text", "_law_sign"]) (sc := defScope lLet) (by decide +kernel)) (fun _ _ _ _ _ => pg_name (i := 1) scLLet.nd rfl (Or.inl rfl)) (fun _ _ _ _ _ => pts_one (pt_cmpR op_notIn_sign (pv 1) pe_str (by rfl)))
        (fun _ _ _ _ _ => pv 1)) pa_nil)) pe_int (nomark _))), ?_⟩
    refine ⟨_, rfl, x, rfl, fun D hD => ?_⟩
    refine lc_it walk_str (fun j H' => H' = upd H D (.lst (((x.cps.toList.take j).filter fun c => !decide (c ∈ smallS.cps.toList)).map fun c => V.str ⟨#[c]⟩))) rfl (fun _ _ _ _ => trivial) ?_ ?_
    · rintro j y H1 H2 hj rfl ⟨rfl, c, hc, rfl⟩
      refine ⟨rfl, ⟨_, rfl, c, smallS, rfl, rfl, _, rfl, ?_⟩⟩
      have tk : x.cps.toList.take (j + 1) = x.cps.toList.take j ++ [c] := by
        rw [List.take_add_one, Array.getElem?_toList, hc]
        rfl
      cases e : decide (c ∈ smallS.cps.toList) with
      | true =>
        refine iteF ?_
        have e2 : ([c].filter fun c => !decide (c ∈ smallS.cps.toList)) = [] := by
          rw [List.filter_cons, e]
          rfl
        rw [tk, List.filter_append, e2, List.append_nil]
      | false =>
        refine iteT ?_
        refine ⟨_, rfl, _, upd_same, ?_, ?_⟩
        · have e1 : x.cps.size ≤ 1000 := few
          have e2 := List.length_filter_le (fun c => !decide (c ∈ smallS.cps.toList)) (x.cps.toList.take j)
          rw [List.length_take] at e2
          rw [sizeLine_eq, List.length_map]
          omega
        · have e2 : ([c].filter fun c => !decide (c ∈ smallS.cps.toList)) = [c] := by
            rw [List.filter_cons, e]
            rfl
          rw [upd_upd, tk, List.filter_append, e2, List.map_append]
          rfl
    · rintro H1 rfl
      rw [List.take_of_length_le (by simp)]
      refine ⟨D, _, rfl, .inl (SqL.of upd_same), rfl, ?_⟩
      have r := k _ (same_new (o := .lst ((x.cps.toList.filter fun c => !decide (c ∈ smallS.cps.toList)).map fun c => V.str ⟨#[c]⟩)) hD)
      have e : decide (V.int (((x.cps.toList.filter fun c => !decide (c ∈ smallS.cps.toList)).map fun c => V.str ⟨#[c]⟩).length) = V.int 0) = lettersIn smallS x := by
        rw [Bool.eq_iff_iff, decide_eq_true_iff]
        show _ ↔ (x.cps.toList.all fun c => decide (c ∈ smallS.cps.toList)) = true
        rw [← filter_nil]
        constructor
        · intro z
          injection z with z
          rw [List.length_map] at z
          exact List.eq_nil_of_length_eq_zero (by omega)
        · intro z
          rw [z]
          rfl
      rw [e]
      exact r
end
end Wp
set_option Elab.async false
set_option linter.all false
set_option maxRecDepth 100000
set_option maxHeartbeats 4000000
namespace Wp
open PySem L2
theorem cut_tail {x : Str} {c : Nat} {r : List Nat} (ex : x.cps.toList = c :: r) : (cutS x (some 1) none).cps.toList = r := by
  have e3 : x.length = r.length + 1 := by
    have : x.cps.toList.length = (c :: r).length := by rw [ex]
    rw [Array.length_toList] at this
    exact this
  have e1 : HT.sIx x.length 0 (some 1) = 1 := by
    rw [show ((1 : Int)) = ((1 : Nat) : Int) from rfl, HT.sIx_nat]
    omega
  have e2 : HT.sIx x.length x.length none = x.length := rfl
  show (((x.cps.toList.drop (HT.sIx x.length 0 (some 1))).take (HT.sIx x.length x.length none - HT.sIx x.length 0 (some 1))).toArray).toList = r
  rw [e1, e2, ex, e3]
  simp
section
variable {P : Program} {w : World} {K : PySem.W.Frag} {mg : Str → Option Value} {base : Heap}
abbrev lFld : Stmt := top 44
theorem scLFld : FnScope ["_law_thing"] ["_law_thing"] (defScope lFld) := ⟨rfl, rfl, rfl, by decide +kernel, rfl, by decide +kernel, by decide +kernel⟩
theorem ok_lFld {f f1 : Addr} {fd fd1 : FuncData} (F : Fun K "_law_is_field_name" "_law_is_field_name" lFld f fd) (B : Bn mg) (L : Known P w K mg base CX0 1 "_law_letters" ["_law_text"] spLet f1 fd1) : FnOk P w K mg base CX0 2 f fd ["_law_thing"] (spIsField K) := by
  refine F.ok scLFld (fun vs H Q E h => ?_) (fun cdv A outer s H vs Q E hr h => ?_)
  · obtain ⟨v, d, rfl, _⟩ := h
    rfl
  · obtain ⟨v, d, rfl, q, sh, k⟩ := h
    refine ⟨_, pss_one (ps_ret (pe_and (pe_callB call_isi (by rfl) B.isi boot_isi (pa_cons (pv 0) (pa_cons (pe_bltn (v := .ty "str") (by rfl) B.str boot_tstr rfl) pa_nil)))
      (pe_and (pe_chain op_le op_le pe_int (pe_callB call_len_str (by rfl) B.len PySem.boot_len (pa_cons (pv 0) pa_nil)) pe_int)
      (pe_one (pe_call L.ok hr rfl L.mg L.kp L.bi .nil pass0 (pa_cons (pv 0) pa_nil)))))), ?_⟩
    refine ⟨_, rfl, _, _, _, _, _, rfl, .ty "str", q.ty, kit_str d, _, rfl, ?_⟩
    cases d with
    | str x =>
      obtain rfl := q.str_of
      have few : x.length ≤ 1000 := sh
      have line : x.length ≤ sizeLine := by
        rw [sizeLine_eq]
        omega
      refine ⟨_, rfl, x, rfl, line, _, _, rfl, rfl, _, rfl, ?_⟩
      have bad : isFieldName (.str x) = false → Q (.bl false) H := fun e => by
        have r := k H (Same.refl _)
        rw [e] at r
        exact r
      refine ite2 (fun h1 => ?_) (fun h1 => ?_)
      · refine ⟨_, _, rfl, rfl, _, rfl, ?_⟩
        refine ite2 (fun h2 => ?_) (fun h2 => ?_)
        · refine ⟨_, rfl, x, rfl, few, fun H' s' => ?_⟩
          have r := k H' s'
          have e : isFieldName (.str x) = lettersIn smallS x := by
            simp only [isFieldName, isWordN]
            rw [decide_eq_true (p := 1 ≤ x.length) (by have := of_decide_eq_true h1; omega), decide_eq_true (p := (x.length : Int) ≤ 8) (of_decide_eq_true h2)]
            simp
          rw [e] at r
          exact r
        · refine bad ?_
          simp only [isFieldName, isWordN]
          rw [decide_eq_false (p := (x.length : Int) ≤ 8) fun z => h2 (decide_eq_true z)]
          simp
      · refine ⟨_, rfl, ?_⟩
        rw [if_neg (by decide)]
        refine bad ?_
        simp only [isFieldName, isWordN]
        rw [decide_eq_false (p := 1 ≤ x.length) fun z => h1 (decide_eq_true (by omega))]
        simp
    | _ => exact k H fun b o e => e
abbrev lKnd : Stmt := top 45
theorem scLKnd : FnScope ["_law_thing"] ["_law_thing"] (defScope lKnd) := ⟨rfl, rfl, rfl, by decide +kernel, rfl, by decide +kernel, by decide +kernel⟩
theorem ok_lKnd {f f1 : Addr} {fd fd1 : FuncData} (F : Fun K "_law_is_kind_name" "_law_is_kind_name" lKnd f fd) (B : Bn mg) (L : Known P w K mg base CX0 1 "_law_letters" ["_law_text"] spLet f1 fd1) : FnOk P w K mg base CX0 2 f fd ["_law_thing"] (spIsKind K) := by
  refine F.ok scLKnd (fun vs H Q E h => ?_) (fun cdv A outer s H vs Q E hr h => ?_)
  · obtain ⟨v, d, rfl, _⟩ := h
    rfl
  · obtain ⟨v, d, rfl, q, sh, k⟩ := h
    refine ⟨_, pss_cons (ps_if (PW.pt (pw_or (pt_not (pt_val (pe_callB call_isi (by rfl) B.isi boot_isi (pa_cons (pv 0) (pa_cons (pe_bltn (v := .ty "str") (by rfl) B.str boot_tstr rfl) pa_nil)))))
        (pw_or1 (pt_not (pt_chain op_le op_le pe_int (pe_callB call_len_str (by rfl) B.len PySem.boot_len (pa_cons (pv 0) pa_nil)) pe_int)))))
        (pss_one (ps_ret pe_bl)) pss_nil)
      (pss_one (ps_ret (pe_and (pe_cmpR op_in_sign (pe_ix ix_str (pv 0) pe_int (fun _ _ => rfl)) pe_str (by rfl))
        (pe_one (pe_call L.ok hr rfl L.mg L.kp L.bi .nil pass0 (pa_cons (pe_slice sl_str (pv 0) (po_some pe_int) po_none) pa_nil)))))), ?_⟩
    refine ⟨_, rfl, _, _, _, _, _, rfl, .ty "str", q.ty, kit_str d, _, rfl, ?_⟩
    cases d with
    | str x =>
      obtain rfl := q.str_of
      have few : x.length ≤ 1000 := sh
      have line : x.length ≤ sizeLine := by
        rw [sizeLine_eq]
        omega
      have bad : isKindName (.str x) = false → Q (.bl false) H := fun e => by
        have r := k H (Same.refl _)
        rw [e] at r
        exact r
      refine ⟨_, rfl, x, rfl, line, _, _, rfl, rfl, _, rfl, ?_⟩
      refine ite2 (fun h1 => ?_) (fun h1 => ?_)
      · refine ⟨_, _, rfl, rfl, _, rfl, ?_⟩
        cases h2 : decide ((x.length : Int) ≤ 8) with
        | true =>
          have g1 : 1 ≤ x.length := by
            have := of_decide_eq_true h1
            omega
          have g2 : x.length ≤ 8 := by
            have := of_decide_eq_true h2
            omega
          obtain ⟨c, r, ex⟩ : ∃ c r, x.cps.toList = c :: r := by
            cases e : x.cps.toList with
            | nil =>
              have : x.cps.toList.length = 0 := by rw [e]; rfl
              rw [Array.length_toList] at this
              have e2 : x.length = x.cps.size := rfl
              omega
            | cons c r => exact ⟨c, r, rfl⟩
          refine ⟨_, rfl, x, 0, c, rfl, rfl, line, by rw [ex]; exact atI_nat (j := 0) rfl, c, largeS, rfl, rfl, _, rfl, ?_⟩
          have ek : isKindName (.str x) = (decide (c ∈ largeS.cps.toList) && r.all fun c => decide (c ∈ smallS.cps.toList)) := by
            simp only [isKindName, ex]
            simp [g2]
          cases h3 : decide (c ∈ largeS.cps.toList) with
          | true =>
            refine ⟨_, rfl, 1, rfl, x, rfl, line, cutS x (some 1) none, rfl, Nat.le_trans (cutS_length _ _ _) few, fun H' s' => ?_⟩
            have r1 := k H' s'
            rw [ek, h3, Bool.true_and] at r1
            have ec := cut_tail ex
            unfold lettersIn
            rw [ec]
            exact r1
          | false => exact bad (by rw [ek, h3]; rfl)
        | false =>
          refine bad ?_
          simp only [isKindName]
          cases x.cps.toList with
          | nil => rfl
          | cons c r =>
            rw [decide_eq_false (p := x.length ≤ 8) (by have := of_decide_eq_false h2; omega)]
            rfl
      · refine ⟨_, rfl, bad ?_⟩
        have e0 : x.length = 0 := by
          have := h1
          simp at this
          omega
        have e1 : x.cps.toList = [] := by
          apply List.eq_nil_of_length_eq_zero
          rw [Array.length_toList]
          exact e0
        simp only [isKindName, e1]
    | _ => exact k H fun b o e => e
end
end Wp
set_option Elab.async false
set_option linter.all false
set_option maxRecDepth 100000
set_option maxHeartbeats 4000000
namespace Wp
open PySem L2
/-! ## words are drawn -/
structure IsW (x : Str) : Prop where
  l0 : 1 ≤ x.length
  l1 : x.length ≤ 8
  sm : lettersIn smallS x = true
theorem IsW.fld {x : Str} (h : IsW x) : isFieldName (.str x) = true := by
  simp only [isFieldName, isWordN]
  rw [decide_eq_true h.l0, decide_eq_true (p := (x.length : Int) ≤ 8) (by have := h.l1; omega), h.sm]
  rfl
theorem letters_add (z a b : Str) : lettersIn z (a ++ b) = (lettersIn z a && lettersIn z b) := by
  unfold lettersIn
  rw [show (a ++ b).cps = a.cps ++ b.cps from rfl, Array.toList_append, List.all_append]
theorem small_at {i : Int} (h0 : 0 ≤ i) (h1 : i < 26) : ∃ c, atI smallS.cps.toList i = some c ∧ c ∈ smallS.cps.toList := by
  obtain ⟨j, rfl⟩ := Int.eq_ofNat_of_zero_le h0
  have hl : smallS.cps.toList.length = 26 := by decide +kernel
  have hj : j < smallS.cps.toList.length := by omega
  exact ⟨_, atI_nat (List.getElem?_eq_getElem hj), List.getElem_mem hj⟩
abbrev rCatS : R2 := fun x y H Q => ∃ i j, x = .str i ∧ y = .str j ∧ i.length + j.length ≤ sizeLine ∧ Q (.str (i ++ j)) H
abbrev bodyW : TS := tIfS (tTest (tOp rEq (tVar 8) (tVar 1)))
  (tAsg (tOp rCatS (tVar 7) (tOp rIxS (tVar 5) (tOp (rI (fun _ j => 0 < j) fun i j => .int (i % j)) (tVar 2) (tC (.int 26))))) (gName 7))
  (tIfS (tB (tVar 3)) (tAsg (tOp rCatS (tVar 7) (tC (.str "a"))) (gName 7))
    (tAsg (tOp rCatS (tVar 7) (tOp rIxS (tVar 5) (tCall spTake [] E0 (tCons (tVar 0) (tCons (tC (.int 26)) tNil))))) (gName 7)))
theorem wd_step {wd z : Str} {i : Nat} (l : wd.length = i) (s : lettersIn smallS wd = true) (c : Nat) (hz : z = ⟨#[c]⟩) (hc : c ∈ smallS.cps.toList) : (wd ++ z).length = i + 1 ∧ lettersIn smallS (wd ++ z) = true := by
  subst hz
  constructor
  · show ((wd.cps ++ #[c]).size) = i + 1
    have : wd.cps.size = i := l
    simp [this]
  · rw [letters_add, s]
    show (true && ([c].all fun c => decide (c ∈ smallS.cps.toList))) = true
    rw [List.all_cons, decide_eq_true hc]
    rfl
theorem wd_rest {p c : Addr} {ns : List Int} {pl ix size : Int} {b : Bool} {H : Hp} {D : Ends} {w7 w8 : Option V} (pn : Pn p c ns H) (i0 : 0 ≤ ix) (l0 : 1 ≤ size) (l1 : size ≤ 8) (k : ∀ x H', IsW x → Go p c ns H H' → D.rt (.str x) H') :
    tSeq (tAsg (tC (.str "")) (gName 7)) (tSeq (tFor (iRng1 (tCons (tVar 6) tNil)) (gName 8) bodyW) (tRet (tVar 7))) D
      [some (.ref p), some (.int pl), some (.int ix), some (.bl b), some (.int 8), some (.str smallS), some (.int size), w7, w8] H := by
  have en : (size.toNat : Int) = size := by omega
  refine ⟨_, rfl, size, rfl, by omega, by omega, ?_⟩
  refine for_it walk_range (fun i σ H' => Go p c ns H H' ∧ ∃ (wd : Str) (v8 : Option V), σ = [some (.ref p), some (.int pl), some (.int ix), some (.bl b), some (.int 8), some (.str smallS), some (.int size), some (.str wd), v8] ∧ wd.length = i ∧ lettersIn smallS wd = true)
    ⟨Go.refl pn, "", w8, rfl, rfl, rfl⟩ (fun _ _ _ _ _ => trivial) ?_ ?_
  · rintro i y σ H1 H2 hi ⟨go, wd, v8, rfl, lw, sw⟩ ⟨rfl, rfl⟩
    have room : ∀ q : Nat, wd.length + (⟨#[q]⟩ : Str).length ≤ sizeLine := fun q => by
      rw [lw, sizeLine_eq]
      show i + 1 ≤ _
      omega
    refine ⟨_, rfl, _, rfl, rfl, _, rfl, ?_⟩
    refine ite2 (fun h1 => ?_) (fun h1 => ?_)
    · have m := mod7 (x := ix) (b := 26) (by decide)
      obtain ⟨q, hq, mq⟩ := small_at m.1 m.2
      refine ⟨_, rfl, _, rfl, _, rfl, _, _, rfl, rfl, (by show (0 : Int) < 26; decide), smallS, _, q, rfl, rfl, (by rw [sizeLine_eq]; decide +kernel), hq, wd, _, rfl, rfl, room q, ?_⟩
      have st := wd_step lw sw q rfl mq
      exact ⟨go, _, _, rfl, st.1, st.2⟩
    · refine ⟨_, rfl, b, rfl, ?_⟩
      cases b with
      | true =>
        refine ⟨_, rfl, wd, _, rfl, rfl, room 97, ?_⟩
        have st := wd_step lw sw 97 rfl (by decide +kernel)
        exact ⟨go, _, _, rfl, st.1, st.2⟩
      | false =>
        refine ⟨_, rfl, _, rfl, _, rfl, ?_⟩
        dsimp only [tCons, tC, tNil, List.append_nil]
        refine take_go (b := 26) go.pn (by decide) (by decide) fun v H3 v0 v1 g3 => ?_
        obtain ⟨q, hq, mq⟩ := small_at v0 v1
        refine ⟨smallS, _, q, rfl, rfl, (by rw [sizeLine_eq]; decide +kernel), hq, wd, _, rfl, rfl, room q, ?_⟩
        have st := wd_step lw sw q rfl mq
        exact ⟨go.trans g3, _, _, rfl, st.1, st.2⟩
  · rintro σ H1 ⟨go, wd, v8, rfl, lw, sw⟩
    exact ⟨_, rfl, k wd H1 ⟨by omega, by omega, sw⟩ go⟩
def spWd (K : PySem.W.Frag) : Sp := fun vs H Q _ => ∃ (p c : Addr) (ns : List Int) (place index : Int) (plain : Bool), vs = [.ref p, .int place, .int index, .bl plain, .int 8] ∧ Pn p c ns H ∧ 0 ≤ place ∧ place ≤ 7 ∧ 0 ≤ index ∧
  ∀ x H', IsW x → Go p c ns H H' → Q (.str x) H'
section
variable {P : Program} {w : World} {K : PySem.W.Frag} {mg : Str → Option Value} {base : Heap}
abbrev lWd : Stmt := top 38
theorem scLWd : FnScope ["_law_pen_here", "_law_place", "_law_index", "_law_plain", "_law_most", "_law_letters_here", "_law_size", "_law_word_here", "_law_k"] ["_law_pen_here", "_law_place", "_law_index", "_law_plain", "_law_most"] (defScope lWd) := ⟨rfl, rfl, rfl, by decide +kernel, rfl, by decide +kernel, by decide +kernel⟩
theorem ok_lWd {f f1 : Addr} {fd fd1 : FuncData} (F : Fun K "_law_word" "_law_word" lWd f fd) (B : Bn mg) (T : Known P w K mg base CX0 1 "_law_take" ["_law_pen_here", "_law_bound"] spTake f1 fd1) :
    FnOk P w K mg base CX0 2 f fd ["_law_pen_here", "_law_place", "_law_index", "_law_plain", "_law_most"] (spWd K) := by
  refine F.ok scLWd (fun vs H Q E h => ?_) (fun cdv A outer s H vs Q E hr h => ?_)
  · obtain ⟨p, c, ns, pl, ix, b, rfl, _⟩ := h
    rfl
  · obtain ⟨p, c, ns, pl, ix, b, rfl, pn, p0, p1, i0, k⟩ := h
    refine ⟨_, pss_cons (ps_set (i := 5) scLWd.nd rfl (.inl rfl) pe_str)
      (pss_cons (ps_set (i := 6) scLWd.nd rfl (.inl rfl) (pe_op op_add (pv 1) pe_int))
      (pss_cons (ps_if (pt_not (pt_val (pv 3))) (pss_one (ps_set (i := 6) scLWd.nd rfl (.inl rfl) (pe_op op_add (pv 6) (pe_call T.ok hr rfl T.mg T.kp T.bi .nil pass0 (pa_cons (pv 0) (pa_cons (pe_op op_sub (pv 4) (pv 1)) pa_nil)))))) pss_nil)
      (pss_cons (ps_set (i := 7) scLWd.nd rfl (.inl rfl) pe_str)
      (pss_cons (ps_for PassesOwn.never rfl (pi_range1 rfl B.range (pa_cons (pv 6) pa_nil)) (pg_name (i := 8) scLWd.nd rfl (Or.inl rfl))
        (pss_one (ps_if (pt_cmpR op_eq (pv 8) (pv 1) (nomark _))
          (pss_one (ps_set (i := 7) scLWd.nd rfl (.inl rfl) (pe_op op_add_str (pv 7) (pe_ix ix_str (pv 5) (pe_op op_mod (pv 2) pe_int) (fun _ _ => rfl)))))
          (pss_one (ps_if (pt_val (pv 3))
            (pss_one (ps_set (i := 7) scLWd.nd rfl (.inl rfl) (pe_op op_add_str (pv 7) pe_str)))
            (pss_one (ps_set (i := 7) scLWd.nd rfl (.inl rfl) (pe_op op_add_str (pv 7) (pe_ix ix_str (pv 5) (pe_call T.ok hr rfl T.mg T.kp T.bi .nil pass0 (pa_cons (pv 0) (pa_cons pe_int pa_nil))) (fun _ _ => rfl))))))))))
      (pss_one (ps_ret (pv 7))))))), ?_⟩
    refine ⟨_, rfl, _, _, rfl, rfl, ?_⟩
    refine ⟨_, rfl, b, rfl, ?_⟩
    cases b with
    | true => exact wd_rest pn i0 (by omega) (by omega) k
    | false =>
      refine ⟨_, rfl, _, rfl, _, rfl, _, rfl, _, _, rfl, rfl, ?_⟩
      dsimp only [tCons, tC, tNil, List.append_nil]
      refine take_go (b := 8 - pl) pn (by omega) (by omega) fun v H1 v0 v1 g1 => ?_
      refine ⟨_, _, rfl, rfl, ?_⟩
      exact wd_rest g1.pn i0 (by omega) (by omega) fun x H' hx g2 => k x H' hx (g1.trans g2)
end
end Wp
set_option Elab.async false
set_option linter.all false
set_option maxRecDepth 100000
set_option maxHeartbeats 4000000
namespace Wp
open PySem L2
/-- what was made since may be filled -/
theorem Go.over {p c D : Addr} {ns : List Int} {H0 H : Hp} {o : HO} (pn : Pn p c ns H0) (g : Go p c ns H0 H) (n : H0 D = none) : Go p c ns H0 (upd H D o) := by
  obtain ⟨a, r, d, m, t, S⟩ := pn
  obtain ⟨a', r', d', m', t', S'⟩ := g.pn
  have np : p ≠ D := ne_of_none S.pd n
  have nc : c ≠ D := ne_of_none S.cl n
  refine ⟨fun b u nb e => ?_, a', r', d', m', t', ?_, ?_, S'.a0, S'.m0, S'.m1⟩
  · rw [upd_ne (ne_of_none e n)]
    exact g.but b u nb e
  · rw [upd_ne np]
    exact S'.pd
  · rw [upd_ne nc]
    exact S'.cl
def spWds (K : PySem.W.Frag) : Sp := fun vs H Q _ => ∃ (p c : Addr) (ns : List Int) (count : Nat), vs = [.ref p, .int count, .int 8] ∧ Pn p c ns H ∧ count ≤ 100 ∧
  ∀ (q : Addr) (ws : List Str) H', ws.length = count → (∀ x ∈ ws, IsW x) → Go p c ns H H' → H' q = some (.lst (ws.map V.str)) → Q (.ref q) H'
section
variable {P : Program} {w : World} {K : PySem.W.Frag} {mg : Str → Option Value} {base : Heap}
abbrev lWds : Stmt := top 39
theorem scLWds : FnScope ["_law_pen_here", "_law_count", "_law_most", "_law_plain", "_law_place", "_law_offset", "_law_k"] ["_law_pen_here", "_law_count", "_law_most"] (defScope lWds) := ⟨rfl, rfl, rfl, by decide +kernel, rfl, by decide +kernel, by decide +kernel⟩
theorem ok_lWds {f f1 f2 f3 : Addr} {fd fd1 fd2 fd3 : FuncData} (F : Fun K "_law_words" "_law_words" lWds f fd) (B : Bn mg) (T : Known P w K mg base CX0 1 "_law_take" ["_law_pen_here", "_law_bound"] spTake f1 fd1)
    (O : Known P w K mg base CX0 2 "_law_one_of" ["_law_pen_here", "_law_menu"] (spOne K) f2 fd2) (W : Known P w K mg base CX0 2 "_law_word" ["_law_pen_here", "_law_place", "_law_index", "_law_plain", "_law_most"] (spWd K) f3 fd3) :
    FnOk P w K mg base CX0 3 f fd ["_law_pen_here", "_law_count", "_law_most"] (spWds K) := by
  refine F.ok scLWds (fun vs H Q E h => ?_) (fun cdv A outer s H vs Q E hr h => ?_)
  · obtain ⟨p, c, ns, n, rfl, _⟩ := h
    rfl
  · obtain ⟨p, c, ns, n, rfl, pn, few, k⟩ := h
    refine ⟨_, pss_cons (ps_set (i := 3) scLWds.nd rfl (.inr rfl) (pe_cmpR op_gt (pe_call T.ok (hr.mono (by decide)) rfl T.mg T.kp T.bi .nil pass0 (pa_cons (pv 0) (pa_cons pe_int pa_nil))) pe_int (nomark _)))
      (pss_cons (ps_set (i := 4) scLWds.nd rfl (.inr rfl) (pe_call O.ok hr rfl O.mg O.kp O.bi .nil pass0 (pa_cons (pv 0) (pa_cons (pe_lst (pa_cons pe_int (pa_cons pe_int (pa_cons pe_int (pa_cons (pe_op op_sub (pv 2) pe_int) pa_nil))))) pa_nil))))
      (pss_cons (ps_set (i := 5) scLWds.nd rfl (.inr rfl) (pe_call T.ok (hr.mono (by decide)) rfl T.mg T.kp T.bi .nil pass0 (pa_cons (pv 0) (pa_cons pe_int pa_nil))))
      (pss_one (ps_ret (pe_lc (own := [("_law_k", 6)]) (g := gName 6) (tt := tYes) (te := tCall (spWd K) [] E0 (tCons (tVar 0) (tCons (tVar 4) (tCons (tOp (rI0 fun i j => .int (i + j)) (tVar 5) (tVar 6)) (tCons (tVar 3) (tCons (tVar 2) tNil)))))) rfl scLWds.nd (pi_range1 rfl B.range (pa_cons (pv 1) pa_nil))
        (blkOk_by (N := ["_law_pen_here", "_law_count", "_law_most", "_law_plain", "_law_place", "_law_offset", "_law_k"]) (sc := defScope lWds) (by decide +kernel)) (fun _ _ _ _ _ => pg_name (i := 6) scLWds.nd rfl (Or.inl rfl)) (fun _ _ _ _ _ => pts_nil)
        (fun _ _ _ _ _ => pe_call W.ok hr rfl W.mg W.kp W.bi .nil pass0 (pa_cons (pv 0) (pa_cons (pv 4) (pa_cons (pe_op op_add (pv 5) (pv 6)) (pa_cons (pv 3) (pa_cons (pv 2) pa_nil))))))))))), ?_⟩
    refine ⟨_, rfl, ?_⟩
    dsimp only [tCons, tC, tNil, List.append_nil]
    refine take_go (b := 3) pn (by decide) (by decide) fun v1 H1 a0 a1 g1 => ?_
    refine ⟨_, _, rfl, rfl, ?_⟩
    refine ⟨_, rfl, _, rfl, _, _, rfl, rfl, by show 4 ≤ sizeLine; decide, fun l hl => ?_⟩
    dsimp only [tNil, List.append_nil]
    have g2 : Go p c ns H (upd H1 l (.lst [.int 0, .int 0, .int 1, .int (8 - 1)])) := g1.trans (Go.new g1.pn hl)
    refine one_go g2.pn (SqL.of upd_same) (by decide) (by decide) fun x H3 mx g3 => ?_
    obtain ⟨pl, rfl, p0, p1⟩ : ∃ pl : Int, x = .int pl ∧ 0 ≤ pl ∧ pl ≤ 7 := by
      simp only [List.mem_cons, List.not_mem_nil, or_false] at mx
      rcases mx with rfl | rfl | rfl | rfl
      · exact ⟨0, rfl, by decide, by decide⟩
      · exact ⟨0, rfl, by decide, by decide⟩
      · exact ⟨1, rfl, by decide, by decide⟩
      · exact ⟨7, rfl, by decide, by decide⟩
    have g23 := g2.trans g3
    refine ⟨_, rfl, ?_⟩
    dsimp only [tCons, tC, tNil, List.append_nil]
    refine take_go (b := 26) g23.pn (by decide) (by decide) fun v4 H4 b0 b1 g4 => ?_
    have g24 := g23.trans g4
    refine ⟨_, rfl, n, rfl, by omega, by omega, fun D hD => ?_⟩
    refine lc_it walk_range (fun i H' => Go p c ns H4 H' ∧ ∃ ws : List Str, ws.length = i ∧ (∀ x ∈ ws, IsW x) ∧ H' D = some (.lst (ws.map V.str))) ⟨Go.new g24.pn hD, [], rfl, fun x hx => (by cases hx), upd_same⟩ (fun _ _ _ _ => trivial) ?_ ?_
    · rintro i y H5 H6 hi ⟨go, ws, lw, iw, eD⟩ ⟨rfl, rfl⟩
      refine ⟨rfl, ⟨_, rfl, _, rfl, _, rfl, _, rfl, _, _, rfl, rfl, _, rfl, _, rfl, p, c, ns, pl, _, _, rfl, go.pn, p0, p1, by omega, fun x H7 hx g7 => ?_⟩⟩
      have nD : D ≠ p := Go.ne go.pn eD (by intro x z; cases z)
      refine ⟨_, g7.but _ _ nD eD, ?_, Go.over g24.pn (go.trans g7) hD, ws ++ [x], by simp [lw], ?_, ?_⟩
      · rw [List.length_map, lw, sizeLine_eq]
        omega
      · intro y hy
        rcases List.mem_append.mp hy with hy | hy
        · exact iw y hy
        · rw [List.mem_singleton] at hy
          exact hy ▸ hx
      · rw [upd_same, List.map_append]
        rfl
    · rintro H5 ⟨go, ws, lw, iw, eD⟩
      exact k D ws H5 (by omega) iw (g24.trans go) eD
end
end Wp
set_option Elab.async false
set_option linter.all false
set_option maxRecDepth 100000
set_option maxHeartbeats 4000000
namespace Wp
open PySem L2
theorem upper_ok : (smallS.cps.toList.all fun c => largeS.cps.toList.any fun C => (Txt.upper ⟨#[c]⟩).cps.toList == [C]) = true := by decide +kernel
theorem upper_at {c : Nat} (h : c ∈ smallS.cps.toList) : ∃ C, C ∈ largeS.cps.toList ∧ Txt.upper ⟨#[c]⟩ = ⟨#[C]⟩ := by
  have q := List.all_eq_true.mp upper_ok c h
  obtain ⟨C, hC, e⟩ := List.any_eq_true.mp q
  refine ⟨C, hC, ?_⟩
  have e2 : (Txt.upper ⟨#[c]⟩).cps.toList = [C] := by simpa using e
  refine Str.ext' ?_
  exact Array.toList_inj.mp e2
/-- a kind's name -/
structure IsK (x : Str) : Prop where
  ok : isKindName (.str x) = true
  l1 : x.length ≤ 8
def spKns : Sp := fun vs H Q _ => ∃ (p c : Addr) (ns : List Int) (count : Nat), vs = [.ref p, .int count] ∧ Pn p c ns H ∧ count ≤ 100 ∧
  ∀ (q : Addr) (ws : List Str) H', ws.length = count → (∀ x ∈ ws, IsK x) → Go p c ns H H' → H' q = some (.lst (ws.map V.str)) → Q (.ref q) H'
theorem isK_of {x : Str} (h : IsW x) : ∃ c r C, x.cps.toList = c :: r ∧ C ∈ largeS.cps.toList ∧ Txt.upper ⟨#[c]⟩ = ⟨#[C]⟩ ∧ IsK (⟨#[C]⟩ ++ cutS x (some 1) none) := by
  obtain ⟨l0, l1, sm⟩ := h
  obtain ⟨c, r, ex⟩ : ∃ c r, x.cps.toList = c :: r := by
    cases e : x.cps.toList with
    | nil =>
      have : x.cps.toList.length = 0 := by rw [e]; rfl
      rw [Array.length_toList] at this
      have e2 : x.length = x.cps.size := rfl
      omega
    | cons c r => exact ⟨c, r, rfl⟩
  unfold lettersIn at sm
  rw [ex, List.all_cons, Bool.and_eq_true] at sm
  obtain ⟨C, hC, eC⟩ := upper_at (of_decide_eq_true sm.1)
  have len : x.length = r.length + 1 := by
    have : x.cps.toList.length = (c :: r).length := by rw [ex]
    rw [Array.length_toList] at this
    exact this
  have et : ((⟨#[C]⟩ : Str) ++ cutS x (some 1) none).cps.toList = C :: r := by
    rw [show ((⟨#[C]⟩ : Str) ++ cutS x (some 1) none).cps = #[C] ++ (cutS x (some 1) none).cps from rfl, Array.toList_append, cut_tail ex]
    rfl
  have el : ((⟨#[C]⟩ : Str) ++ cutS x (some 1) none).length = r.length + 1 := by
    have : ((⟨#[C]⟩ : Str) ++ cutS x (some 1) none).cps.toList.length = (C :: r).length := by rw [et]
    rw [Array.length_toList] at this
    exact this
  refine ⟨c, r, C, ex, hC, eC, ?_, by omega⟩
  simp only [isKindName, et]
  rw [decide_eq_true (by omega), decide_eq_true hC, sm.2]
  rfl
section
variable {P : Program} {w : World} {K : PySem.W.Frag} {mg : Str → Option Value} {base : Heap}
abbrev lKns : Stmt := top 40
theorem scLKns : FnScope ["_law_pen_here", "_law_count", "_law_word_here"] ["_law_pen_here", "_law_count"] (defScope lKns) := ⟨rfl, rfl, rfl, by decide +kernel, rfl, by decide +kernel, by decide +kernel⟩
theorem ok_lKns {f f1 : Addr} {fd fd1 : FuncData} (F : Fun K "_law_kind_names" "_law_kind_names" lKns f fd) (B : Bn mg) (W : Known P w K mg base CX0 3 "_law_words" ["_law_pen_here", "_law_count", "_law_most"] (spWds K) f1 fd1) :
    FnOk P w K mg base CX0 4 f fd ["_law_pen_here", "_law_count"] spKns := by
  refine F.ok scLKns (fun vs H Q E h => ?_) (fun cdv A outer s H vs Q E hr h => ?_)
  · obtain ⟨p, c, ns, n, rfl, _⟩ := h
    rfl
  · obtain ⟨p, c, ns, n, rfl, pn, few, k⟩ := h
    refine ⟨_, pss_one (ps_ret (pe_lc (own := [("_law_word_here", 2)]) (g := gName 2) (tt := tYes) (te := tOp (fun x y H Q => ∃ i j, x = .str i ∧ y = .str j ∧ i.length + j.length ≤ sizeLine ∧ Q (.str (i ++ j)) H)
          (tM0 (fun x xs H Q => ∃ a, x = .str a ∧ xs = [] ∧ a.length ≤ 5592405 ∧ Q (.str (Txt.upper a)) H) (tOp rIxS (tVar 2) (tC (.int 0)))) (tSl rSlS (tVar 2) (tPart (tC (.int 1))) tNoPart)) rfl scLKns.nd
        (pi_list (pe_call W.ok hr rfl W.mg W.kp W.bi .nil pass0 (pa_cons (pv 0) (pa_cons (pv 1) (pa_cons pe_int pa_nil)))))
        (blkOk_by (N := ["_law_pen_here", "_law_count", "_law_word_here"]) (sc := defScope lKns) (by decide +kernel)) (fun _ _ _ _ _ => pg_name (i := 2) scLKns.nd rfl (Or.inl rfl)) (fun _ _ _ _ _ => pts_nil)
        (fun _ _ _ _ _ => pe_op op_add_str (pe_upper (pe_ix ix_str (pv 2) pe_int (fun _ _ => rfl))) (pe_slice sl_str (pv 2) (po_some pe_int) po_none)))), ?_⟩
    refine ⟨_, rfl, _, rfl, p, c, ns, n, rfl, pn, few, fun q ws H1 lw iw g1 eq => ?_⟩
    refine ⟨q, rfl, ⟨_, SqL.of eq⟩, fun D hD => ?_⟩
    refine lc_it walk_list (fun i H' => Same H1 H' ∧ ∃ us : List Str, us.length = i ∧ (∀ x ∈ us, IsK x) ∧ H' D = some (.lst (us.map V.str))) ⟨same_new hD, [], rfl, fun x hx => (by cases hx), upd_same⟩
      (fun i H' _ z => sqL_same z.1 (SqL.of eq)) ?_ ?_
    · rintro i y H5 H6 hi ⟨sm, us, lu, iu, eD⟩ ⟨rfl, hy⟩
      obtain ⟨x, hx, rfl⟩ : ∃ x, ws[i]? = some x ∧ y = V.str x := by
        rw [List.getElem?_map] at hy
        cases e : ws[i]? with
        | none =>
          rw [e] at hy
          cases hy
        | some x =>
          rw [e] at hy
          exact ⟨x, rfl, (Option.some.inj hy).symm⟩
      have wx := iw x (List.mem_of_getElem? hx)
      obtain ⟨ch, r, C, ex, hC, eC, ik⟩ := isK_of wx
      have line : x.length ≤ sizeLine := by
        have := wx.l1
        rw [sizeLine_eq]
        omega
      have li : i < ws.length := (List.getElem?_eq_some_iff.mp hx).1
      refine ⟨rfl, ⟨_, rfl, x, 0, ch, rfl, rfl, line, by rw [ex]; exact atI_nat (j := 0) rfl, ⟨_, rfl⟩, _, rfl, rfl, by show 1 ≤ 5592405; decide, _, rfl, 1, rfl, x, rfl, line, _, _, rfl, rfl, ?_, ?_⟩⟩
      · have := cutS_length x (some 1) none
        have := wx.l1
        rw [eC, sizeLine_eq]
        show 1 + _ ≤ _
        omega
      · rw [eC]
        refine ⟨_, eD, ?_, fun b o e => ?_, us ++ [⟨#[C]⟩ ++ cutS x (some 1) none], by simp [lu], ?_, ?_⟩
        · rw [List.length_map, lu, sizeLine_eq]
          omega
        · rw [upd_ne (ne_of_none e hD)]
          exact sm b o e
        · intro y hy
          rcases List.mem_append.mp hy with hy | hy
          · exact iu y hy
          · rw [List.mem_singleton] at hy
            exact hy ▸ ik
        · rw [upd_same, List.map_append]
          rfl
    · rintro H5 ⟨sm, us, lu, iu, eD⟩
      rw [List.length_map] at lu
      exact k D us H5 (by omega) iu (g1.trans (Go.of g1.pn sm)) eD
end
end Wp
set_option Elab.async false
set_option linter.all false
set_option maxRecDepth 100000
set_option maxHeartbeats 4000000
namespace Wp
open PySem L2 PySem.Spec PyProof.Rows
/-! ## repr of any of the law's values -/
inductive Dr (K : PySem.W.Frag) (H : Hp) : V → PyData → Prop
  | q {v : V} {d : PyData} : Dq K H v d → Dr K H v d
  | bad {a : Addr} {v : V} {d : PyData} : SqT K H a [.str "bad", v] → Dq K H v d → Dr K H (.ref a) (.tuple [.str "bad", d])
section
variable {X : Cx}
theorem noDict_of {d : PyData} (h : d.canLay0 = true) : d.hasDict = false := by
  have key : ∀ ds : List PyData, (∀ d ∈ ds, d.canLay0 = true → d.hasDict = false) → PyData.canLayAll0 ds = true → PyData.hasDictAll ds = false := by
    intro ds
    induction ds with
    | nil => intro _ _; rfl
    | cons x r ih =>
      intro f g
      simp only [PyData.canLayAll0, Bool.and_eq_true] at g
      simp only [PyData.hasDictAll, f x List.mem_cons_self g.1, ih (fun d m => f d (List.mem_cons_of_mem _ m)) g.2, Bool.or_self]
  match d, h with
  | .none, _ => rfl
  | .bool _, _ => rfl
  | .int _, _ => rfl
  | .str _, _ => rfl
  | .list ds, h => exact key ds (fun d m => noDict_of) (by simpa only [PyData.canLay0] using h)
  | .tuple ds, h => exact key ds (fun d m => noDict_of) (by simpa only [PyData.canLay0] using h)
  | .dict _, h => exact absurd h (by simp [PyData.canLay0])
theorem Dq.reads {pins : List (Addr × Obj)} {σ : L2.St} {H : Hp} {s : Shared} {v : V} {u : Value} {d : PyData} (I : Inv X pins σ H s) (q : Dq X.K H v d) (r : RelV v u) : ∃ as, Reads s.heap u d as ∧ (d.hasDict = true → sysModules ∉ as) := by
  cases q with
  | dat q sh =>
    obtain ⟨as, rd⟩ := Dp.reads I d v u q r
    exact ⟨as, rd, fun z => by rw [noDict_of (SeqAt.canLay_of_shaped sh)] at z; cases z⟩
  | dct h =>
    cases r
    obtain ⟨_, no, vs, kv, o, es, ep, ho, ex, hd, _, pr, _⟩ := I.hok _ _ h
    cases kv
    have es0 : es.toList = [] := by
      cases h : es.toList with
      | nil => rfl
      | cons x r =>
        rw [h] at pr
        cases pr
    refine ⟨_, Reads.dict (kvs := []) ho ex.1 hd (by rw [es0]; exact .nil) (by rw [es0]; exact .nil), fun _ => ?_⟩
    simpa using fun z => (beq_eq_false_iff_ne.mp no) z.symm
theorem Dr.reads {pins : List (Addr × Obj)} {σ : L2.St} {H : Hp} {s : Shared} {v : V} {u : Value} {d : PyData} (I : Inv X pins σ H s) (q : Dr X.K H v d) (r : RelV v u) : ∃ as, Reads s.heap u d as ∧ (d.hasDict = true → sysModules ∉ as) := by
  cases q with
  | q q => exact Dq.reads I q r
  | bad sq q =>
    cases r
    obtain ⟨its, rv, ⟨o, ho, hc, n, hd⟩, _⟩ := I.tuple sq
    cases rv with
    | cons r1 rv =>
      cases rv with
      | cons r2 rv =>
        cases rv
        obtain ⟨t, rfl⟩ := r1
        obtain ⟨as, rd, no⟩ := Dq.reads I q r2
        refine ⟨_, Reads.tuple ho hc hd (.cons (Reads.str _ t) (.cons rd .nil)), fun z => ?_⟩
        simp only [List.nil_append, List.append_nil]
        exact no (by simpa [PyData.hasDict, PyData.hasDictAll] using z)
def rReprQ (K : PySem.W.Frag) : List V → Hp → VK → Prop := fun xs H Q => ∃ (v : V) (d : PyData), xs = [v] ∧ Dr K H v d ∧ d.showable = true ∧ d.depth ≤ 10 ∧ d.shown.length ≤ sizeLine ∧ Q (.str d.shown) H
theorem call_reprQ (hG : X.A.guards = some []) (hu : X.A.units + 20 < cLine) : CallR X (.builtin "repr") (rReprQ X.K) := by
  rintro pins s σ H xs us Q I r ⟨v, d, rfl, q, h1, h3, h4, k⟩
  obtain ⟨u, rfl, rx⟩ := vals1 r
  obtain ⟨as, rd, no⟩ := Dr.reads I q rx
  have fin : ∀ (t : Tok) (tk : Nat), EP X pins σ Q (.str d.shown t) { s with toks := tk } := fun t tk => ⟨.str d.shown, H, I.tok _, ⟨_, rfl⟩, k⟩
  cases rd with
  | none => exact call_repr_gives (typeIs_none s) F.slot_NoneType_repr F.entry_NoneType_repr (F.args_NoneType_repr_1 _) gives_none_repr (fin _ _) (hx := h4)
  | bool b => exact call_repr_gives (PySem.typeIs_bool s b) F.slot_bool_repr F.entry_bool_repr (F.args_bool_repr_1 _) (gives_bool_repr b) (fin _ _) (hx := h4)
  | int i t => exact call_repr_gives (typeIs_int s i t) F.slot_int_repr F.entry_int_repr (F.args_int_repr_1 _) (gives_int_repr i t (by simpa [PyData.showable] using h1)) (fin _ _) (hx := h4)
  | str x t => exact call_repr_gives (typeIs_str s x t) F.slot_str_repr F.entry_str_repr (F.args_str_repr_1 _) (gives_str_repr x t) (fin _ _) (hx := h4)
  | list a b c e => exact PySem.repr_of_reads' (.list a b c e) h1 no hG (by omega) (fun _ _ e => e) (fun h' u tk hk => ⟨.str _, H, I.kept hk, ⟨_, rfl⟩, k⟩) h4
  | tuple a b c e => exact PySem.repr_of_reads' (.tuple a b c e) h1 no hG (by omega) (fun _ _ e => e) (fun h' u tk hk => ⟨.str _, H, I.kept hk, ⟨_, rfl⟩, k⟩) h4
  | dict a b c e f => exact PySem.repr_of_reads' (.dict a b c e f) h1 no hG (by omega) (fun _ _ e => e) (fun h' u tk hk => ⟨.str _, H, I.kept hk, ⟨_, rfl⟩, k⟩) h4
end
/-- small enough to be told -/
structure Sz (d : PyData) : Prop where
  sh : d.showable = true
  dp : d.depth ≤ 10
  ln : d.shown.length ≤ sizeLine
def spSameQ (K : PySem.W.Frag) : Sp := fun vs H Q _ => ∃ (x y : V) (d e : PyData), vs = [x, y] ∧ Dr K H x d ∧ Dr K H y e ∧ Sz d ∧ Sz e ∧ Q (.bl (decide (d.shown = e.shown))) H
section
variable {P : Program} {w : World} {K : PySem.W.Frag} {mg : Str → Option Value} {base : Heap}
abbrev lSame : Stmt := top 42
theorem scLSame : FnScope ["_law_one", "_law_other"] ["_law_one", "_law_other"] (defScope lSame) := ⟨rfl, rfl, rfl, by decide +kernel, rfl, by decide +kernel, by decide +kernel⟩
theorem boot_repr : bootBuiltins "repr" = some (.builtin "repr") := by decide +kernel
theorem ok_lSame {f : Addr} {fd : FuncData} (F : Fun K "_law_same" "_law_same" lSame f fd) (B : Bn mg) : GOk P w K mg base CX0 1 f fd ["_law_one", "_law_other"] (spSameQ K) := by
  refine gok_of F scLSame (fun vs H Q E h => ?_) (fun cdv A outer s H vs Q E hG hr h => ?_)
  · obtain ⟨x, y, d, e, rfl, _⟩ := h
    rfl
  · obtain ⟨x, y, d, e, rfl, qx, qy, sx, sy, k⟩ := h
    have hu : (A.deeper (envOfC "_law_same" (defScope lSame) s.heap.objs.size f cdv)).units + 20 < cLine := by
      have := hr.un
      omega
    refine ⟨_, pss_one (ps_ret (pe_cmpR op_eq (pe_callB (call_reprQ hG hu) (by rfl) B.repr boot_repr (pa_cons (pv 0) pa_nil)) (pe_callB (call_reprQ hG hu) (by rfl) B.repr boot_repr (pa_cons (pv 1) pa_nil)) (nomark _))), ?_⟩
    refine ⟨_, rfl, x, d, rfl, qx, sx.sh, sx.dp, sx.ln, _, rfl, y, e, rfl, qy, sy.sh, sy.dp, sy.ln, rfl, ?_⟩
    have z : decide (V.str d.shown = V.str e.shown) = decide (d.shown = e.shown) := by
      by_cases c : d.shown = e.shown
      · rw [c]
        simp
      · rw [decide_eq_false c]
        exact decide_eq_false fun q => c (by injection q)
    rw [z]
    exact k
end
end Wp
set_option Elab.async false
set_option linter.all false
set_option maxRecDepth 100000
set_option maxHeartbeats 4000000
namespace Wp
open PySem L2 PySem.Spec PyProof.Rows
/-! ## the law's values -/
theorem log_of {i : Int} (h : i.natAbs < 10 ^ 35) : i.natAbs.log2 < 1920 := by
  have h2 : i.natAbs < 2 ^ 1920 := Nat.lt_of_lt_of_le h (by decide +kernel)
  by_cases z : i.natAbs = 0
  · rw [z]
    decide
  · exact (Nat.log2_lt z).mpr h2
theorem short_of {i : Int} (h : i.natAbs < 10 ^ 35) : (PyData.shown (.int i)).length ≤ 40 := by
  have e := int_text_length_le10 (k := 35) (by decide) h
  show (Str.ofString (toString i)).length ≤ 40
  rw [PySem.ofString_length]
  omega
theorem wi_of {i : Int} (h : i.natAbs < 10 ^ 35) : (PyData.int i).weight ≤ 118 := by
  have h2 : i.natAbs < 2 ^ 117 := Nat.lt_of_lt_of_le h (by decide +kernel)
  simp only [PyData.weight]
  split
  · exact Nat.zero_le _
  · by_cases z : i.natAbs = 0
    · rw [z]
      decide
    · have := (Nat.log2_lt z).mpr h2
      omega
structure Sl (d : PyData) : Prop where
  sh : d.showable = true
  dp : d.depth ≤ 3
  ls : d.leavesShort 40 = true
  wt : d.weight ≤ 200
theorem sl_all : ∀ ds : List PyData, (∀ d ∈ ds, Sl d) → PyData.showableAll ds = true ∧ PyData.depthAll ds ≤ 3 ∧ PyData.leavesShortAll 40 ds = true ∧ PyData.weightAll ds ≤ 201 * ds.length := by
  intro ds
  induction ds with
  | nil => intro _; exact ⟨rfl, by simp [PyData.depthAll], rfl, by simp [PyData.weightAll]⟩
  | cons d ds ih =>
    intro h
    obtain ⟨a, c, e, f⟩ := ih fun x hx => h x (List.mem_cons_of_mem _ hx)
    have g := h d List.mem_cons_self
    refine ⟨?_, ?_, ?_, ?_⟩
    · show (d.showable && PyData.showableAll ds) = true
      rw [g.sh, a]
      rfl
    · have := g.dp
      simp only [PyData.depthAll]
      omega
    · show (d.leavesShort 40 && PyData.leavesShortAll 40 ds) = true
      rw [g.ls, e]
      rfl
    · have := g.wt
      simp only [PyData.weightAll, List.length_cons]
      omega
theorem sz_list {ds : List PyData} (h : ∀ d ∈ ds, Sl d) (l : ds.length ≤ 8) : Sz (.list ds) := by
  obtain ⟨a, c, e, f⟩ := sl_all ds h
  refine ⟨a, by simp only [PyData.depth]; omega, ?_⟩
  have q := PyData.shown_le 40 (by decide) (.list ds) e
  have z : (PyData.list ds).weight ≤ 1700 := by
    simp only [PyData.weight]
    omega
  rw [sizeLine_eq]
  omega
theorem sz_tup {ds : List PyData} (h : ∀ d ∈ ds, Sl d) (l : ds.length ≤ 8) : Sz (.tuple ds) := by
  obtain ⟨a, c, e, f⟩ := sl_all ds h
  refine ⟨a, by simp only [PyData.depth]; omega, ?_⟩
  have q := PyData.shown_le 40 (by decide) (.tuple ds) e
  have z : (PyData.tuple ds).weight ≤ 1700 := by
    simp only [PyData.weight]
    omega
  rw [sizeLine_eq]
  omega
theorem Sl.sz {d : PyData} (h : Sl d) : Sz d := by
  refine ⟨h.sh, by have := h.dp; omega, ?_⟩
  have q := PyData.shown_le 40 (by decide) d h.ls
  have := h.wt
  rw [sizeLine_eq]
  omega
theorem sl_none : Sl .none := ⟨rfl, by simp [PyData.depth], rfl, by simp [PyData.weight]⟩
theorem sl_bool (b : Bool) : Sl (.bool b) := ⟨rfl, by simp [PyData.depth], by cases b <;> rfl, by simp [PyData.weight]⟩
theorem sl_int {i : Int} (h : i.natAbs < 10 ^ 35) : Sl (.int i) := ⟨decide_eq_true (log_of h), by simp [PyData.depth], decide_eq_true (short_of h), Nat.le_trans (wi_of h) (by decide)⟩
theorem sl_str {x : Str} (h1 : ∀ c ∈ x.cps.toList, c < 16 ^ 8) (h2 : x.length ≤ 90) : Sl (.str x) := by
  refine ⟨rfl, by simp [PyData.depth], ?_, ?_⟩
  · show (x.cps.toList.all fun c => decide (c < 16 ^ 8)) = true
    exact List.all_eq_true.mpr fun c hc => decide_eq_true (h1 c hc)
  · have : x.cps.size = x.length := rfl
    simp only [PyData.weight]
    omega
theorem sl_dict : Sl (.dict []) := ⟨rfl, by simp [PyData.depth, PyData.depthKv], rfl, by simp [PyData.weight, PyData.weightKv]⟩
def plainL : List Nat := ("abcdefghijklmnopqrstuvwxyzABCDEFGHIJKLMNOPQRSTUVWXYZ0123456789 " : Str).cps.toList
def Pln (x : Str) : Prop := (x.cps.toList.all fun c => decide (c ∈ plainL)) = true
/-- texts in it are plain, at its top -/
def PlnD : PyData → Prop
  | .str x => Pln x
  | _ => True
theorem plain_low : (plainL.all fun c => decide (c < 0x110000)) = true := by decide +kernel
theorem Pln.low {x : Str} (h : Pln x) : (x.cps.toList.all fun c => decide (c < 0x110000)) = true := by
  refine List.all_eq_true.mpr fun c hc => ?_
  exact List.all_eq_true.mp plain_low c (of_decide_eq_true (List.all_eq_true.mp h c hc))
/-- a list is one that may be written; it is known what stands in it -/
def Owned (K : PySem.W.Frag) (H : Hp) (v : V) (d : PyData) : Prop := (∀ ds, d = .list ds → ∃ (a : Addr) (us : List V), v = .ref a ∧ H a = some (.lst us) ∧ us.length ≤ 4 ∧ DpAll K H us ds) ∧
  ∀ ds, d = .tuple ds → ∃ (a : Addr) (us : List V), v = .ref a ∧ H a = some (.tup us) ∧ DpAll K H us ds
/-- a value of the law: data, small, with short texts, plain ones -/
structure Vd (K : PySem.W.Frag) (H : Hp) (v : V) (d : PyData) : Prop where
  q : Dq K H v d
  s : Sl d
  a : Shrt d
  b : ShrtS d
  p : PlnD d
  o : Owned K H v d
theorem Vd.go {K : PySem.W.Frag} {p c : Addr} {ns : List Int} {H H' : Hp} {v : V} {d : PyData} (h : Vd K H v d) (pn : Pn p c ns H) (g : Go p c ns H H') : Vd K H' v d :=
  ⟨g.dq pn h.q, h.s, h.a, h.b, h.p, fun ds e => by
    obtain ⟨a, us, e1, e2, e3, e4⟩ := h.o.1 ds e
    exact ⟨a, us, e1, g.but _ _ (Go.ne pn e2 (by intro x z; cases z)) e2, e3, g.dpAll pn e4⟩, fun ds e => by
    obtain ⟨a, us, e1, e2, e4⟩ := h.o.2 ds e
    exact ⟨a, us, e1, g.but _ _ (Go.ne pn e2 (by intro x z; cases z)) e2, g.dpAll pn e4⟩⟩
theorem Vd.same {K : PySem.W.Frag} {H H' : Hp} {v : V} {d : PyData} (h : Vd K H v d) (s : Same H H') : Vd K H' v d :=
  ⟨h.q.same s, h.s, h.a, h.b, h.p, fun ds e => by
    obtain ⟨a, us, e1, e2, e3, e4⟩ := h.o.1 ds e
    exact ⟨a, us, e1, s _ _ e2, e3, dpAll_same s e4⟩, fun ds e => by
    obtain ⟨a, us, e1, e2, e4⟩ := h.o.2 ds e
    exact ⟨a, us, e1, s _ _ e2, dpAll_same s e4⟩⟩
section
variable {K : PySem.W.Frag} {H : Hp}
theorem vd_none : Vd K H .non .none := ⟨.dat .non rfl, sl_none, trivial, fun ds e => (by cases e), trivial, fun ds e => (by cases e), fun ds e => (by cases e)⟩
theorem vd_bool (b : Bool) : Vd K H (.bl b) (.bool b) := ⟨.dat (.bl b) rfl, sl_bool b, trivial, fun ds e => (by cases e), trivial, fun ds e => (by cases e), fun ds e => (by cases e)⟩
theorem vd_int {i : Int} (h : i.natAbs < 10 ^ 35) : Vd K H (.int i) (.int i) := ⟨.dat (.int i) rfl, sl_int h, trivial, fun ds e => (by cases e), trivial, fun ds e => (by cases e), fun ds e => (by cases e)⟩
theorem vd_str {x : Str} (hp : (x.cps.toList.all fun c => decide (c ∈ plainL)) = true) (h2 : x.length ≤ 90) : Vd K H (.str x) (.str x) := by
  have h1 := Pln.low hp
  have h3 : ∀ c ∈ x.cps.toList, c < 0x110000 := fun c hc => of_decide_eq_true (List.all_eq_true.mp h1 c hc)
  refine ⟨.dat (.str x) ?_, sl_str (fun c hc => Nat.lt_trans (h3 c hc) (by decide)) h2, (by show x.length ≤ 1000; omega), fun ds e => (by cases e), hp, fun ds e => (by cases e), fun ds e => (by cases e)⟩
  have : PyData.strOk x = true := by
    unfold PyData.strOk
    rw [← Array.all_toList]
    exact h1
  simp [SeqAt.shaped, PyData.canLay0, PyData.depth, this]
theorem vd_dict {a : Addr} (h : H a = some (.dK [])) : Vd K H (.ref a) (.dict []) := ⟨.dct h, sl_dict, trivial, fun ds e => (by cases e), trivial, fun ds e => (by cases e), fun ds e => (by cases e)⟩
end
end Wp
set_option Elab.async false
set_option linter.all false
set_option maxRecDepth 100000
set_option maxHeartbeats 4000000
namespace Wp
open PySem L2
/-- a thing that may stand in a little list -/
structure Fi (K : PySem.W.Frag) (H : Hp) (v : V) (d : PyData) : Prop where
  q : Dp K H v d
  cl : d.canLay0 = true
  sh : d.showable = true
  dp : d.depth ≤ 1
  ls : d.leavesShort 40 = true
  wt : d.weight ≤ 40
  a : Shrt d
section
variable {K : PySem.W.Frag} {H : Hp}
theorem Fi.same {H' : Hp} {v : V} {d : PyData} (h : Fi K H v d) (s : Same H H') : Fi K H' v d := ⟨dp_same s h.q, h.cl, h.sh, h.dp, h.ls, h.wt, h.a⟩
theorem fi_all : ∀ {vs : List V} {ds : List PyData}, Paired (Fi K H) vs ds → DpAll K H vs ds ∧ PyData.canLayAll0 ds = true ∧ PyData.showableAll ds = true ∧ PyData.depthAll ds ≤ 1 ∧ PyData.leavesShortAll 40 ds = true ∧ PyData.weightAll ds ≤ 41 * ds.length ∧ ∀ d ∈ ds, Shrt d
  | _, _, .nil => ⟨.nil, rfl, rfl, by simp [PyData.depthAll], rfl, by simp [PyData.weightAll], fun d m => by cases m⟩
  | _, _, .cons (b := d) h t => by
    obtain ⟨a, b, c, e, f, g, i⟩ := fi_all t
    refine ⟨.cons h.q a, by simp only [PyData.canLayAll0, h.cl, b, Bool.and_self], by simp only [PyData.showableAll, h.sh, c, Bool.and_self], ?_, by simp only [PyData.leavesShortAll, h.ls, f, Bool.and_self], ?_, ?_⟩
    · have := h.dp
      simp only [PyData.depthAll]
      omega
    · have := h.wt
      simp only [PyData.weightAll, List.length_cons]
      omega
    · intro x m
      rcases List.mem_cons.mp m with rfl | m
      · exact h.a
      · exact i x m
theorem vd_lst {a : Addr} {vs : List V} {ds : List PyData} (eo : H a = some (.lst vs)) (h : Paired (Fi K H) vs ds) (l : ds.length ≤ 4) : Vd K H (.ref a) (.list ds) := by
  obtain ⟨z, b, c, e, f, g, i⟩ := fi_all h
  have dl : (PyData.list ds).depth ≤ 2 := by
    simp only [PyData.depth]
    omega
  refine ⟨.dat (.lst (SqL.of eo) z) ?_, ⟨c, by omega, f, ?_⟩, trivial, fun ds' e' => ?_, trivial, fun _ e => (by cases e; exact ⟨a, vs, rfl, eo, by rw [h.length]; exact l, z⟩), fun _ e => (by cases e)⟩
  · simp only [SeqAt.shaped, PyData.canLay0, b, Bool.true_and, decide_eq_true_eq]
    omega
  · simp only [PyData.weight]
    omega
  · cases e'
    exact i
theorem vd_tup {a : Addr} {vs : List V} {ds : List PyData} (eo : H a = some (.tup vs)) (h : Paired (Fi K H) vs ds) (l : ds.length ≤ 4) : Vd K H (.ref a) (.tuple ds) := by
  obtain ⟨z, b, c, e, f, g, i⟩ := fi_all h
  have dl : (PyData.tuple ds).depth ≤ 2 := by
    simp only [PyData.depth]
    omega
  refine ⟨.dat (.tup (SqT.of eo) z) ?_, ⟨c, by omega, f, ?_⟩, trivial, fun ds' e' => ?_, trivial, fun _ e => (by cases e), fun _ e => (by cases e; exact ⟨a, vs, rfl, eo, z⟩)⟩
  · simp only [SeqAt.shaped, PyData.canLay0, b, Bool.true_and, decide_eq_true_eq]
    omega
  · simp only [PyData.weight]
    omega
  · cases e'
    exact i
theorem fi_str {x : Str} (h1 : (x.cps.toList.all fun c => decide (c < 0x110000)) = true) (h2 : x.length ≤ 20) : Fi K H (.str x) (.str x) := by
  have h3 : ∀ c ∈ x.cps.toList, c < 0x110000 := fun c hc => of_decide_eq_true (List.all_eq_true.mp h1 c hc)
  have s := sl_str (fun c hc => Nat.lt_trans (h3 c hc) (by decide)) (x := x) (by omega)
  refine ⟨.str x, ?_, rfl, by simp [PyData.depth], s.ls, ?_, (by show x.length ≤ 1000; omega)⟩
  · have : PyData.strOk x = true := by
      unfold PyData.strOk
      rw [← Array.all_toList]
      exact h1
    simp only [PyData.canLay0, this]
  · have : x.cps.size = x.length := rfl
    simp only [PyData.weight]
    omega
theorem fi_none : Fi K H .non .none := ⟨.non, rfl, rfl, by simp [PyData.depth], rfl, by simp [PyData.weight], trivial⟩
theorem fi_one : Fi K H (.int 1) (.int 1) := ⟨.int 1, rfl, by decide +kernel, by simp [PyData.depth], by decide +kernel, by decide +kernel, trivial⟩
theorem fi_nil {a : Addr} (h : SqL K H a []) : Fi K H (.ref a) (.list []) := ⟨.lst h .nil, rfl, rfl, by simp [PyData.depth, PyData.depthAll], rfl, by simp [PyData.weight, PyData.weightAll], trivial⟩
theorem small_low : (smallS.cps.toList.all fun c => decide (c < 0x110000)) = true := by decide +kernel
theorem isW_low {x : Str} (h : IsW x) : (x.cps.toList.all fun c => decide (c < 0x110000)) = true := by
  refine List.all_eq_true.mpr fun c hc => ?_
  have := List.all_eq_true.mp h.sm c hc
  exact List.all_eq_true.mp small_low c (of_decide_eq_true this)
theorem small_pln : (smallS.cps.toList.all fun c => decide (c ∈ plainL)) = true := by decide +kernel
theorem isW_pln {x : Str} (h : IsW x) : (x.cps.toList.all fun c => decide (c ∈ plainL)) = true := by
  refine List.all_eq_true.mpr fun c hc => ?_
  have := List.all_eq_true.mp h.sm c hc
  exact List.all_eq_true.mp small_pln c (of_decide_eq_true this)
theorem IsW.fi {x : Str} (h : IsW x) : Fi K H (.str x) (.str x) := fi_str (isW_low h) (by have := h.l1; omega)
theorem IsW.vd {x : Str} (h : IsW x) : Vd K H (.str x) (.str x) := vd_str (isW_pln h) (by have := h.l1; omega)
end
/-- a value of the law that is made of new things alone -/
def VdN (K : PySem.W.Frag) (H H' : Hp) (v : V) (d : PyData) : Prop := ∀ H'' : Hp, (∀ b o, H b = none → H' b = some o → H'' b = some o) → Vd K H'' v d
theorem VdN.here {K : PySem.W.Frag} {H H' : Hp} {v : V} {d : PyData} (h : VdN K H H' v d) : Vd K H' v d := h H' fun _ _ _ e => e
def spOdd (K : PySem.W.Frag) : Sp := fun vs H Q _ => ∃ (p c : Addr) (ns : List Int), vs = [.ref p] ∧ Pn p c ns H ∧ ∀ (x : V) (d : PyData) (H' : Hp), VdN K H H' x d → Go p c ns H H' → Q x H'
section
variable {P : Program} {w : World} {K : PySem.W.Frag} {mg : Str → Option Value} {base : Heap}
abbrev lOdd : Stmt := top 41
theorem scLOdd : FnScope ["_law_pen_here", "_law_menu"] ["_law_pen_here"] (defScope lOdd) := ⟨rfl, rfl, rfl, by decide +kernel, rfl, by decide +kernel, by decide +kernel⟩
theorem ok_lOdd {f f1 : Addr} {fd fd1 : FuncData} (F : Fun K "_law_odd" "_law_odd" lOdd f fd) (B : Bn mg) (O : Known P w K mg base CX0 2 "_law_one_of" ["_law_pen_here", "_law_menu"] (spOne K) f1 fd1) : FnOk P w K mg base CX0 3 f fd ["_law_pen_here"] (spOdd K) := by
  refine F.ok scLOdd (fun vs H Q E h => ?_) (fun cdv A outer s H vs Q E hr h => ?_)
  · obtain ⟨p, c, ns, rfl, _⟩ := h
    rfl
  · obtain ⟨p, c, ns, rfl, pn, k⟩ := h
    refine ⟨_, pss_cons (ps_set (i := 1) scLOdd.nd rfl (.inl rfl) (pe_lst (pa_cons pe_non (pa_cons pe_bl (pa_cons pe_bl (pa_cons pe_int (pa_cons pe_int (pa_cons (pe_un un_neg pe_int) (pa_cons (pe_op op_pow pe_int pe_int)
        (pa_cons pe_str (pa_cons pe_str (pa_cons pe_str (pa_cons pe_str (pa_cons pe_str (pa_cons pe_str (pa_cons pe_str (pa_cons pe_str (pa_cons (pe_tup pa_nil) (pa_cons (pe_lst pa_nil) (pa_cons pe_dnewK pa_nil))))))))))))))))))))
      (pss_one (ps_ret (pe_call O.ok hr rfl O.mg O.kp O.bi .nil pass0 (pa_cons (pv 0) (pa_cons (pe_op op_cat (pv 1) (pe_lst (pa_cons (pe_tup (pa_cons pe_str pa_nil)) (pa_cons (pe_lst (pa_cons pe_str pa_nil)) (pa_cons pe_str (pa_cons pe_str (pa_cons pe_str (pa_cons pe_str
        (pa_cons (pe_op op_pow pe_int pe_int) (pa_cons pe_str (pa_cons (pe_tup (pa_cons pe_str (pa_cons pe_non pa_nil))) pa_nil)))))))))) ) pa_nil))))), ?_⟩
    refine ⟨_, rfl, _, _, rfl, rfl, ⟨by decide, by decide, by decide⟩, by show 0 ≤ sizeLine; decide, fun t0 h0 => ⟨by show 0 ≤ sizeLine; decide, fun l0 i0 => fun d0 j0 => ⟨by show 18 ≤ sizeLine; decide, fun m0 k0 => ?_⟩⟩⟩
    have S1 : Same H (upd H t0 (.tup [])) := same_new h0
    have T1 : upd H t0 (.tup []) t0 = some (.tup []) := upd_same
    generalize upd H t0 (.tup []) = H1 at i0 j0 k0 S1 T1 ⊢
    have S2 : Same H1 (upd H1 l0 (.lst [])) := same_new i0
    have L1 : upd H1 l0 (.lst []) l0 = some (.lst []) := upd_same
    generalize upd H1 l0 (.lst []) = H2 at j0 k0 S2 L1 ⊢
    have S3 : Same H2 (upd H2 d0 (.dK [])) := same_new j0
    have D1 : upd H2 d0 (.dK []) d0 = some (.dK []) := upd_same
    generalize upd H2 d0 (.dK []) = H3 at k0 S3 D1 ⊢
    have S4 := same_new (o := HO.lst [V.non, V.bl true, V.bl false, V.int 0, V.int 1, (fun i : Int => V.int (-i)) 1, (fun i j : Int => V.int (i ^ j.toNat)) 10 30, V.str "", V.str "a b", V.str "Any", V.str "any", V.str "mark", V.str "A1", V.str "abcdefghi", V.str "Abcdefghi", V.ref t0, V.ref l0, V.ref d0]) k0
    have M1 : upd H3 m0 (.lst [V.non, V.bl true, V.bl false, V.int 0, V.int 1, (fun i : Int => V.int (-i)) 1, (fun i j : Int => V.int (i ^ j.toNat)) 10 30, V.str "", V.str "a b", V.str "Any", V.str "any", V.str "mark", V.str "A1", V.str "abcdefghi", V.str "Abcdefghi", V.ref t0, V.ref l0, V.ref d0]) m0 = some (.lst [V.non, V.bl true, V.bl false, V.int 0, V.int 1, (fun i : Int => V.int (-i)) 1, (fun i j : Int => V.int (i ^ j.toNat)) 10 30, V.str "", V.str "a b", V.str "Any", V.str "any", V.str "mark", V.str "A1", V.str "abcdefghi", V.str "Abcdefghi", V.ref t0, V.ref l0, V.ref d0]) := upd_same
    generalize upd H3 m0 (.lst [V.non, V.bl true, V.bl false, V.int 0, V.int 1, (fun i : Int => V.int (-i)) 1, (fun i j : Int => V.int (i ^ j.toNat)) 10 30, V.str "", V.str "a b", V.str "Any", V.str "any", V.str "mark", V.str "A1", V.str "abcdefghi", V.str "Abcdefghi", V.ref t0, V.ref l0, V.ref d0]) = H4 at S4 M1 ⊢
    refine ⟨_, rfl, _, rfl, by show 1 ≤ sizeLine; decide, fun t1 h1 => ⟨by show 1 ≤ sizeLine; decide, fun l1 i1 => ⟨_, _, rfl, rfl, ⟨by decide, by decide, by decide⟩, by show 2 ≤ sizeLine; decide, fun t2 j1 => ⟨by show 9 ≤ sizeLine; decide, fun m1 k1 => ?_⟩⟩⟩⟩
    have S5 : Same H4 (upd H4 t1 (.tup [.str "a"])) := same_new h1
    have T5 : upd H4 t1 (.tup [.str "a"]) t1 = some (.tup [.str "a"]) := upd_same
    generalize upd H4 t1 (.tup [.str "a"]) = H5 at i1 j1 k1 S5 T5 ⊢
    have S6 : Same H5 (upd H5 l1 (.lst [.str "a"])) := same_new i1
    have T6 : upd H5 l1 (.lst [.str "a"]) l1 = some (.lst [.str "a"]) := upd_same
    generalize upd H5 l1 (.lst [.str "a"]) = H6 at j1 k1 S6 T6 ⊢
    have S7 : Same H6 (upd H6 t2 (.tup [.str "a", .non])) := same_new j1
    have T7 : upd H6 t2 (.tup [.str "a", .non]) t2 = some (.tup [.str "a", .non]) := upd_same
    generalize upd H6 t2 (.tup [.str "a", .non]) = H7 at k1 S7 T7 ⊢
    have S8 : Same H7 (upd H7 m1 (.lst [V.ref t1, V.ref l1, V.str "a", V.str "B", V.str "here", V.str "step", (fun i j : Int => V.int (i ^ j.toNat)) 10 12, V.str "aB", V.ref t2])) := same_new k1
    have T8 : upd H7 m1 (.lst [V.ref t1, V.ref l1, V.str "a", V.str "B", V.str "here", V.str "step", (fun i j : Int => V.int (i ^ j.toNat)) 10 12, V.str "aB", V.ref t2]) m1 = some (.lst [V.ref t1, V.ref l1, V.str "a", V.str "B", V.str "here", V.str "step", (fun i j : Int => V.int (i ^ j.toNat)) 10 12, V.str "aB", V.ref t2]) := upd_same
    generalize upd H7 m1 (.lst [V.ref t1, V.ref l1, V.str "a", V.str "B", V.str "here", V.str "step", (fun i j : Int => V.int (i ^ j.toNat)) 10 12, V.str "aB", V.ref t2]) = H8 at S8 T8 ⊢
    have s48 := ((S5.trans S6).trans S7).trans S8
    refine ⟨m0, m1, _, _, rfl, rfl, s48 _ _ M1, T8, by show 18 + 9 ≤ sizeLine; decide, fun m2 k2 => ?_⟩
    have S9 := same_new (o := HO.lst ([V.non, V.bl true, V.bl false, V.int 0, V.int 1, (fun i : Int => V.int (-i)) 1, (fun i j : Int => V.int (i ^ j.toNat)) 10 30, V.str "", V.str "a b", V.str "Any", V.str "any", V.str "mark", V.str "A1", V.str "abcdefghi", V.str "Abcdefghi", V.ref t0, V.ref l0, V.ref d0] ++ [V.ref t1, V.ref l1, V.str "a", V.str "B", V.str "here", V.str "step", (fun i j : Int => V.int (i ^ j.toNat)) 10 12, V.str "aB", V.ref t2])) k2
    have s49 := s48.trans S9
    have sA := (((S1.trans S2).trans S3).trans S4).trans s49
    have ET0 := s49 _ _ (S4 _ _ (S3 _ _ (S2 _ _ T1)))
    have EL0 := s49 _ _ (S4 _ _ (S3 _ _ L1))
    have ED0 := s49 _ _ (S4 _ _ D1)
    have ET1 := S9 _ _ (S8 _ _ (S7 _ _ (S6 _ _ T5)))
    have EL1 := S9 _ _ (S8 _ _ (S7 _ _ T6))
    have ET2 := S9 _ _ (S8 _ _ T7)
    dsimp only [tNil, List.append_nil]
    refine one_go (pn.same sA) (SqL.of upd_same) (by show 0 < 27; decide) (by show 27 ≤ 1000; decide) fun x H' mx g => ?_
    have NT0 : H t0 = none := h0
    have NL0 : H l0 = none := none_of S1 i0
    have ND0 : H d0 = none := none_of (S1.trans S2) j0
    have S14 := ((S1.trans S2).trans S3).trans S4
    have NT1 : H t1 = none := none_of S14 h1
    have NL1 : H l1 = none := none_of (S14.trans S5) i1
    have NT2 : H t2 = none := none_of ((S14.trans S5).trans S6) j1
    have up : ∀ b o, H b = none → (upd H8 m2 (.lst ([V.non, V.bl true, V.bl false, V.int 0, V.int 1, (fun i : Int => V.int (-i)) 1, (fun i j : Int => V.int (i ^ j.toNat)) 10 30, V.str "", V.str "a b", V.str "Any", V.str "any", V.str "mark", V.str "A1", V.str "abcdefghi", V.str "Abcdefghi", V.ref t0, V.ref l0, V.ref d0] ++ [V.ref t1, V.ref l1, V.str "a", V.str "B", V.str "here", V.str "step", (fun i j : Int => V.int (i ^ j.toNat)) 10 12, V.str "aB", V.ref t2]))) b = some o → ∀ H'' : Hp, (∀ b o, H b = none → H' b = some o → H'' b = some o) → H'' b = some o := by
      intro b o n e H'' h
      refine h b o n (g.but b o (fun z => ?_) e)
      obtain ⟨a1, r, dd, m, t, S⟩ := pn
      rw [z, S.pd] at n
      cases n
    have v : ∃ d, VdN K H H' x d := by
      rcases List.mem_append.mp mx with mx | mx
      · simp only [List.mem_cons, List.not_mem_nil, or_false] at mx
        rcases mx with rfl | rfl | rfl | rfl | rfl | rfl | rfl | rfl | rfl | rfl | rfl | rfl | rfl | rfl | rfl | rfl | rfl | rfl
        · exact ⟨_, fun H'' h => vd_none⟩
        · exact ⟨_, fun H'' h => vd_bool true⟩
        · exact ⟨_, fun H'' h => vd_bool false⟩
        · exact ⟨_, fun H'' h => vd_int (by decide +kernel)⟩
        · exact ⟨_, fun H'' h => vd_int (by decide +kernel)⟩
        · exact ⟨_, fun H'' h => vd_int (by decide +kernel)⟩
        · exact ⟨_, fun H'' h => vd_int (by decide +kernel)⟩
        · exact ⟨_, fun H'' h => vd_str (by decide +kernel) (by decide +kernel)⟩
        · exact ⟨_, fun H'' h => vd_str (by decide +kernel) (by decide +kernel)⟩
        · exact ⟨_, fun H'' h => vd_str (by decide +kernel) (by decide +kernel)⟩
        · exact ⟨_, fun H'' h => vd_str (by decide +kernel) (by decide +kernel)⟩
        · exact ⟨_, fun H'' h => vd_str (by decide +kernel) (by decide +kernel)⟩
        · exact ⟨_, fun H'' h => vd_str (by decide +kernel) (by decide +kernel)⟩
        · exact ⟨_, fun H'' h => vd_str (by decide +kernel) (by decide +kernel)⟩
        · exact ⟨_, fun H'' h => vd_str (by decide +kernel) (by decide +kernel)⟩
        · exact ⟨_, fun H'' h => vd_tup (up _ _ NT0 ET0 H'' h) .nil (by decide)⟩
        · exact ⟨_, fun H'' h => vd_lst (up _ _ NL0 EL0 H'' h) .nil (by decide)⟩
        · exact ⟨_, fun H'' h => vd_dict (up _ _ ND0 ED0 H'' h)⟩
      · simp only [List.mem_cons, List.not_mem_nil, or_false] at mx
        rcases mx with rfl | rfl | rfl | rfl | rfl | rfl | rfl | rfl | rfl
        · exact ⟨_, fun H'' h => vd_tup (up _ _ NT1 ET1 H'' h) (.cons (fi_str (by decide +kernel) (by decide +kernel)) .nil) (by show 1 ≤ 4; decide)⟩
        · exact ⟨_, fun H'' h => vd_lst (up _ _ NL1 EL1 H'' h) (.cons (fi_str (by decide +kernel) (by decide +kernel)) .nil) (by show 1 ≤ 4; decide)⟩
        · exact ⟨_, fun H'' h => vd_str (by decide +kernel) (by decide +kernel)⟩
        · exact ⟨_, fun H'' h => vd_str (by decide +kernel) (by decide +kernel)⟩
        · exact ⟨_, fun H'' h => vd_str (by decide +kernel) (by decide +kernel)⟩
        · exact ⟨_, fun H'' h => vd_str (by decide +kernel) (by decide +kernel)⟩
        · exact ⟨_, fun H'' h => vd_int (by decide +kernel)⟩
        · exact ⟨_, fun H'' h => vd_str (by decide +kernel) (by decide +kernel)⟩
        · exact ⟨_, fun H'' h => vd_tup (up _ _ NT2 ET2 H'' h) (.cons (fi_str (by decide +kernel) (by decide +kernel)) (.cons fi_none .nil)) (by show 2 ≤ 4; decide)⟩
    obtain ⟨d, v⟩ := v
    exact k x d H' v ((Go.of pn sA).trans g)
end
end Wp
set_option Elab.async false
set_option linter.all false
set_option maxRecDepth 100000
set_option maxHeartbeats 4000000
namespace Wp
open PySem L2
/-- a list of drawn words -/
structure Pool (K : PySem.W.Frag) (H : Hp) (q : Addr) (ws : List Str) : Prop where
  eq : H q = some (.lst (ws.map V.str))
  ok : ∀ x ∈ ws, IsW x
theorem Pool.sq {K : PySem.W.Frag} {H : Hp} {q : Addr} {ws : List Str} (h : Pool K H q ws) : SqL K H q (ws.map V.str) := SqL.of h.eq
theorem Pool.go {K : PySem.W.Frag} {H H' : Hp} {q p c : Addr} {ns : List Int} {ws : List Str} (h : Pool K H q ws) (pn : Pn p c ns H) (g : Go p c ns H H') : Pool K H' q ws := ⟨g.but _ _ (Go.ne pn h.eq (by intro x z; cases z)) h.eq, h.ok⟩
/-- the kinds' names -/
structure Names (K : PySem.W.Frag) (H : Hp) (q : Addr) (ws : List Str) : Prop where
  eq : H q = some (.lst (ws.map V.str))
  ok : ∀ x ∈ ws, IsK x
theorem Names.go {K : PySem.W.Frag} {H H' : Hp} {q p c : Addr} {ns : List Int} {ws : List Str} (h : Names K H q ws) (pn : Pn p c ns H) (g : Go p c ns H H') : Names K H' q ws := ⟨g.but _ _ (Go.ne pn h.eq (by intro x z; cases z)) h.eq, h.ok⟩
theorem large_low : (largeS.cps.toList.all fun c => decide (c < 0x110000)) = true := by decide +kernel
theorem isK_low {x : Str} (h : IsK x) : (x.cps.toList.all fun c => decide (c < 0x110000)) = true := by
  have q := h.ok
  cases e : x.cps.toList with
  | nil => rfl
  | cons c r =>
    simp only [isKindName, e, Bool.and_eq_true] at q
    rw [List.all_cons, Bool.and_eq_true]
    refine ⟨List.all_eq_true.mp large_low c (of_decide_eq_true q.1.2), List.all_eq_true.mpr fun y hy => ?_⟩
    exact List.all_eq_true.mp small_low y (of_decide_eq_true (List.all_eq_true.mp q.2 y hy))
theorem large_pln : (largeS.cps.toList.all fun c => decide (c ∈ plainL)) = true := by decide +kernel
theorem isK_pln {x : Str} (h : IsK x) : (x.cps.toList.all fun c => decide (c ∈ plainL)) = true := by
  have q := h.ok
  cases e : x.cps.toList with
  | nil => rfl
  | cons c r =>
    simp only [isKindName, e, Bool.and_eq_true] at q
    rw [List.all_cons, Bool.and_eq_true]
    refine ⟨List.all_eq_true.mp large_pln c (of_decide_eq_true q.1.2), List.all_eq_true.mpr fun y hy => ?_⟩
    exact List.all_eq_true.mp small_pln y (of_decide_eq_true (List.all_eq_true.mp q.2 y hy))
theorem IsK.vd {K : PySem.W.Frag} {H : Hp} {x : Str} (h : IsK x) : Vd K H (.str x) (.str x) := vd_str (isK_pln h) (by have := h.l1; omega)
theorem Go.none {p c a : Addr} {ns : List Int} {H H1 : Hp} (g : Go p c ns H H1) (h : H1 a = none) : H a = none := by
  cases e : H a with
  | none => rfl
  | some o =>
    by_cases z : a = p
    · obtain ⟨a1, r, d, m, t, S⟩ := g.pn
      rw [z, S.pd] at h
      cases h
    · rw [g.but _ _ z e] at h
      cases h
theorem cut3 {ws : List Str} {v : Int} (lw : ws.length = 12) (ok : ∀ x ∈ ws, IsW x) (h0 : 0 ≤ v) (h1 : v < 10) : ∃ f s t : Str, cutV (ws.map V.str) (some v) (some (v + 3)) = [.str f, .str s, .str t] ∧ IsW f ∧ IsW s ∧ IsW t := by
  obtain ⟨j, rfl⟩ := Int.eq_ofNat_of_zero_le h0
  have hj : j < 10 := by omega
  have l1 : j < ws.length := by omega
  have l2 : j + 1 < ws.length := by omega
  have l3 : j + 2 < ws.length := by omega
  refine ⟨ws[j], ws[j + 1], ws[j + 2], ?_, ok _ (List.getElem_mem l1), ok _ (List.getElem_mem l2), ok _ (List.getElem_mem l3)⟩
  unfold cutV
  rw [List.length_map, lw, show ((j : Int) + 3) = ((j + 3 : Nat) : Int) by omega, HT.sIx_nat, HT.sIx_nat, show min j 12 = j by omega, show min (j + 3) 12 = j + 3 by omega, show j + 3 - j = 3 by omega]
  rw [List.drop_eq_getElem_cons (by simpa using l1), List.drop_eq_getElem_cons (by simpa using l2), List.drop_eq_getElem_cons (by simpa using l3)]
  simp
def spEld (K : PySem.W.Frag) : Sp := fun vs H Q _ => ∃ (p c : Addr) (ns : List Int) (n : Str) (q : Addr) (ws : List Str), vs = [.ref p, .str n, .ref q] ∧ Pn p c ns H ∧ IsW n ∧ Pool K H q ws ∧ ws.length = 12 ∧ ∀ (x : V) (d : PyData) (H' : Hp), VdN K H H' x d → Go p c ns H H' → Q x H'
section
variable {P : Program} {w : World} {K : PySem.W.Frag} {mg : Str → Option Value} {base : Heap}
abbrev lEld : Stmt := top 46
theorem scLEld : FnScope ["_law_pen_here", "_law_name", "_law_pool", "_law_start", "_law_first", "_law_second", "_law_third", "_law_menu"] ["_law_pen_here", "_law_name", "_law_pool"] (defScope lEld) := ⟨rfl, rfl, rfl, by decide +kernel, rfl, by decide +kernel, by decide +kernel⟩
theorem ok_lEld {f f1 f2 : Addr} {fd fd1 fd2 : FuncData} (F : Fun K "_law_elder" "_law_elder" lEld f fd) (B : Bn mg) (T : Known P w K mg base CX0 1 "_law_take" ["_law_pen_here", "_law_bound"] spTake f2 fd2) (O : Known P w K mg base CX0 2 "_law_one_of" ["_law_pen_here", "_law_menu"] (spOne K) f1 fd1) :
    FnOk P w K mg base CX0 3 f fd ["_law_pen_here", "_law_name", "_law_pool"] (spEld K) := by
  refine F.ok scLEld (fun vs H Q E h => ?_) (fun cdv A outer s H vs Q E hr h => ?_)
  · obtain ⟨p, c, ns, n, q, ws, rfl, _⟩ := h
    rfl
  · obtain ⟨p, c, ns, n, q, ws, rfl, pn, hn, po, lw, k⟩ := h
    refine ⟨_, pss_cons (ps_set (i := 3) scLEld.nd rfl (.inl rfl) (pe_call T.ok (hr.mono (by decide)) rfl T.mg T.kp T.bi .nil pass0 (pa_cons (pv 0) (pa_cons (pe_op op_sub (pe_callB call_len_seq (by rfl) B.len PySem.boot_len (pa_cons (pv 2) pa_nil)) pe_int) pa_nil))))
      (pss_cons (ps_asg (pe_slice sl_list (pv 2) (po_some (pv 3)) (po_some (pe_op op_add (pv 3) pe_int))) (pg_unl rfl (pgs_cons (pg_name (i := 4) scLEld.nd rfl (Or.inl rfl)) (pgs_cons (pg_name (i := 5) scLEld.nd rfl (Or.inl rfl)) (pgs_cons (pg_name (i := 6) scLEld.nd rfl (Or.inl rfl)) pgs_nil)))))
      (pss_cons (ps_set (i := 7) scLEld.nd rfl (.inl rfl) (pe_lst (pa_cons (pe_tup pa_nil) (pa_cons (pe_tup pa_nil) (pa_cons (pe_tup (pa_cons (pv 4) pa_nil)) (pa_cons (pe_lst (pa_cons (pv 5) pa_nil)) (pa_cons (pe_tup (pa_cons (pv 4) (pa_cons (pv 5) pa_nil)))
          (pa_cons (pe_lst (pa_cons (pv 6) (pa_cons (pv 4) pa_nil))) (pa_cons (pe_tup (pa_cons (pv 4) (pa_cons (pv 4) pa_nil))) (pa_cons (pe_tup (pa_cons (pv 1) pa_nil)) (pa_cons (pe_lst (pa_cons (pv 5) (pa_cons (pv 1) pa_nil))) pa_nil)))))))))))
      (pss_one (ps_ret (pe_call O.ok hr rfl O.mg O.kp O.bi .nil pass0 (pa_cons (pv 0) (pa_cons (pe_op op_cat (pv 7) (pe_lst (pa_cons (pe_tup (pa_cons (pv 4) (pa_cons (pv 5) (pa_cons (pv 6) pa_nil)))) (pa_cons (pe_tup (pa_cons (pv 4) (pa_cons pe_int pa_nil))) (pa_cons pe_str
          (pa_cons (pe_lst (pa_cons (pe_lst pa_nil) pa_nil)) pa_nil)))))) pa_nil))))))), ?_⟩
    refine ⟨_, rfl, _, rfl, q, _, rfl, .inl po.sq, _, _, rfl, rfl, ?_⟩
    dsimp only [tNil, List.append_nil]
    rw [show (((ws.map V.str).length : Int) - 2) = 10 by rw [List.length_map, lw]; rfl]
    refine take_go (b := 10) pn (by decide) (by decide) fun v H1 a0 a1 g1 => ?_
    obtain ⟨f, s, t, ec, wf, wss, wt⟩ := cut3 lw po.ok a0 a1
    refine ⟨_, rfl, _, rfl, v, rfl, _, rfl, _, _, rfl, rfl, _, rfl, q, _, rfl, g1.sqL pn po.sq, fun sl hsl => ?_⟩
    rw [ec]
    have S0 := same_new (o := HO.lst [.str f, .str s, .str t]) hsl
    have E0 : upd H1 sl (.lst [.str f, .str s, .str t]) sl = some (.lst [.str f, .str s, .str t]) := upd_same
    generalize upd H1 sl (.lst [.str f, .str s, .str t]) = H2 at S0 E0 ⊢
    refine ⟨sl, _, rfl, SqL.of E0, rfl, _, _, rfl, _, _, rfl, _, _, rfl, rfl, ?_⟩
    refine ⟨by show 0 ≤ sizeLine; decide, fun a0 ha0 => ⟨by show 0 ≤ sizeLine; decide, fun a1 ha1 => ⟨_, rfl, by show 1 ≤ sizeLine; decide, fun a2 ha2 => ⟨_, rfl, by show 1 ≤ sizeLine; decide, fun a3 ha3 => ⟨_, rfl, _, rfl, by show 2 ≤ sizeLine; decide, fun a4 ha4 => ⟨_, rfl, _, rfl, by show 2 ≤ sizeLine; decide, fun a5 ha5 => ⟨_, rfl, _, rfl, by show 2 ≤ sizeLine; decide, fun a6 ha6 => ⟨_, rfl, by show 1 ≤ sizeLine; decide, fun a7 ha7 => ⟨_, rfl, _, rfl, by show 2 ≤ sizeLine; decide, fun a8 ha8 => ⟨by show 9 ≤ sizeLine; decide, fun m0 hm0 => ?_⟩⟩⟩⟩⟩⟩⟩⟩⟩⟩
    have S3 : Same H2 (upd H2 a0 (.tup [])) := same_new ha0
    have Ea0 : upd H2 a0 (.tup []) a0 = some (.tup []) := upd_same
    generalize upd H2 a0 (.tup []) = H3 at ha1 ha2 ha3 ha4 ha5 ha6 ha7 ha8 hm0 S3 Ea0 ⊢
    have S4 : Same H3 (upd H3 a1 (.tup [])) := same_new ha1
    have Ea1 : upd H3 a1 (.tup []) a1 = some (.tup []) := upd_same
    generalize upd H3 a1 (.tup []) = H4 at ha2 ha3 ha4 ha5 ha6 ha7 ha8 hm0 S4 Ea1 ⊢
    have S5 : Same H4 (upd H4 a2 (.tup [.str f])) := same_new ha2
    have Ea2 : upd H4 a2 (.tup [.str f]) a2 = some (.tup [.str f]) := upd_same
    generalize upd H4 a2 (.tup [.str f]) = H5 at ha3 ha4 ha5 ha6 ha7 ha8 hm0 S5 Ea2 ⊢
    have S6 : Same H5 (upd H5 a3 (.lst [.str s])) := same_new ha3
    have Ea3 : upd H5 a3 (.lst [.str s]) a3 = some (.lst [.str s]) := upd_same
    generalize upd H5 a3 (.lst [.str s]) = H6 at ha4 ha5 ha6 ha7 ha8 hm0 S6 Ea3 ⊢
    have S7 : Same H6 (upd H6 a4 (.tup [.str f, .str s])) := same_new ha4
    have Ea4 : upd H6 a4 (.tup [.str f, .str s]) a4 = some (.tup [.str f, .str s]) := upd_same
    generalize upd H6 a4 (.tup [.str f, .str s]) = H7 at ha5 ha6 ha7 ha8 hm0 S7 Ea4 ⊢
    have S8 : Same H7 (upd H7 a5 (.lst [.str t, .str f])) := same_new ha5
    have Ea5 : upd H7 a5 (.lst [.str t, .str f]) a5 = some (.lst [.str t, .str f]) := upd_same
    generalize upd H7 a5 (.lst [.str t, .str f]) = H8 at ha6 ha7 ha8 hm0 S8 Ea5 ⊢
    have S9 : Same H8 (upd H8 a6 (.tup [.str f, .str f])) := same_new ha6
    have Ea6 : upd H8 a6 (.tup [.str f, .str f]) a6 = some (.tup [.str f, .str f]) := upd_same
    generalize upd H8 a6 (.tup [.str f, .str f]) = H9 at ha7 ha8 hm0 S9 Ea6 ⊢
    have S10 : Same H9 (upd H9 a7 (.tup [.str n])) := same_new ha7
    have Ea7 : upd H9 a7 (.tup [.str n]) a7 = some (.tup [.str n]) := upd_same
    generalize upd H9 a7 (.tup [.str n]) = H10 at ha8 hm0 S10 Ea7 ⊢
    have S11 : Same H10 (upd H10 a8 (.lst [.str s, .str n])) := same_new ha8
    have Ea8 : upd H10 a8 (.lst [.str s, .str n]) a8 = some (.lst [.str s, .str n]) := upd_same
    generalize upd H10 a8 (.lst [.str s, .str n]) = H11 at hm0 S11 Ea8 ⊢
    have Sm0 : Same H11 (upd H11 m0 (.lst [V.ref a0, V.ref a1, V.ref a2, V.ref a3, V.ref a4, V.ref a5, V.ref a6, V.ref a7, V.ref a8])) := same_new hm0
    have Em0 : upd H11 m0 (.lst [V.ref a0, V.ref a1, V.ref a2, V.ref a3, V.ref a4, V.ref a5, V.ref a6, V.ref a7, V.ref a8]) m0 = some (.lst [V.ref a0, V.ref a1, V.ref a2, V.ref a3, V.ref a4, V.ref a5, V.ref a6, V.ref a7, V.ref a8]) := upd_same
    generalize upd H11 m0 (.lst [V.ref a0, V.ref a1, V.ref a2, V.ref a3, V.ref a4, V.ref a5, V.ref a6, V.ref a7, V.ref a8]) = H12 at Sm0 Em0 ⊢
    refine ⟨_, rfl, _, rfl, _, rfl, _, rfl, _, rfl, by show 3 ≤ sizeLine; decide, fun b0 hb0 => ⟨_, rfl, by show 2 ≤ sizeLine; decide, fun b1 hb1 => ⟨by show 0 ≤ sizeLine; decide, fun b3i hb3i => ⟨by show 1 ≤ sizeLine; decide, fun b3 hb3 => ⟨by show 4 ≤ sizeLine; decide, fun m1 hm1 => ?_⟩⟩⟩⟩⟩
    have S13 : Same H12 (upd H12 b0 (.tup [.str f, .str s, .str t])) := same_new hb0
    have Eb0 : upd H12 b0 (.tup [.str f, .str s, .str t]) b0 = some (.tup [.str f, .str s, .str t]) := upd_same
    generalize upd H12 b0 (.tup [.str f, .str s, .str t]) = H13 at hb1 hb3i hb3 hm1 S13 Eb0 ⊢
    have S14 : Same H13 (upd H13 b1 (.tup [.str f, .int 1])) := same_new hb1
    have Eb1 : upd H13 b1 (.tup [.str f, .int 1]) b1 = some (.tup [.str f, .int 1]) := upd_same
    generalize upd H13 b1 (.tup [.str f, .int 1]) = H14 at hb3i hb3 hm1 S14 Eb1 ⊢
    have S15 : Same H14 (upd H14 b3i (.lst [])) := same_new hb3i
    have Eb3i : upd H14 b3i (.lst []) b3i = some (.lst []) := upd_same
    generalize upd H14 b3i (.lst []) = H15 at hb3 hm1 S15 Eb3i ⊢
    have S16 : Same H15 (upd H15 b3 (.lst [.ref b3i])) := same_new hb3
    have Eb3 : upd H15 b3 (.lst [.ref b3i]) b3 = some (.lst [.ref b3i]) := upd_same
    generalize upd H15 b3 (.lst [.ref b3i]) = H16 at hm1 S16 Eb3 ⊢
    have Sm1 : Same H16 (upd H16 m1 (.lst [V.ref b0, V.ref b1, V.str "", V.ref b3])) := same_new hm1
    have Em1 : upd H16 m1 (.lst [V.ref b0, V.ref b1, V.str "", V.ref b3]) m1 = some (.lst [V.ref b0, V.ref b1, V.str "", V.ref b3]) := upd_same
    generalize upd H16 m1 (.lst [V.ref b0, V.ref b1, V.str "", V.ref b3]) = H17 at Sm1 Em1 ⊢
    have Z17 := Same.refl H17
    have Z16 := Sm1.trans Z17
    have Z15 := S16.trans Z16
    have Z14 := S15.trans Z15
    have Z13 := S14.trans Z14
    have Z12 := S13.trans Z13
    have Z11 := Sm0.trans Z12
    have Z10 := S11.trans Z11
    have Z9 := S10.trans Z10
    have Z8 := S9.trans Z9
    have Z7 := S8.trans Z8
    have Z6 := S7.trans Z7
    have Z5 := S6.trans Z6
    have Z4 := S5.trans Z5
    have Z3 := S4.trans Z4
    have Z2 := S3.trans Z3
    refine ⟨m0, m1, _, _, rfl, rfl, Z12 _ _ Em0, Em1, by show 13 ≤ sizeLine; decide, fun m2 hm2 => ?_⟩
    have SL := same_new (o := HO.lst ([V.ref a0, V.ref a1, V.ref a2, V.ref a3, V.ref a4, V.ref a5, V.ref a6, V.ref a7, V.ref a8] ++ [V.ref b0, V.ref b1, V.str "", V.ref b3])) hm2
    have gA := (g1.trans (Go.of g1.pn (S0.trans Z2)))
    have gB := gA.trans (Go.of gA.pn SL)
    dsimp only [tNil, List.append_nil]
    refine one_go gB.pn (SqL.of upd_same) (by show 0 < 13; decide) (by show 13 ≤ 1000; decide) fun x H' mx g => ?_
    have C2 := S0
    have Na0 : H a0 = none := g1.none (none_of C2 ha0)
    have C3 := C2.trans S3
    have Na1 : H a1 = none := g1.none (none_of C3 ha1)
    have C4 := C3.trans S4
    have Na2 : H a2 = none := g1.none (none_of C4 ha2)
    have C5 := C4.trans S5
    have Na3 : H a3 = none := g1.none (none_of C5 ha3)
    have C6 := C5.trans S6
    have Na4 : H a4 = none := g1.none (none_of C6 ha4)
    have C7 := C6.trans S7
    have Na5 : H a5 = none := g1.none (none_of C7 ha5)
    have C8 := C7.trans S8
    have Na6 : H a6 = none := g1.none (none_of C8 ha6)
    have C9 := C8.trans S9
    have Na7 : H a7 = none := g1.none (none_of C9 ha7)
    have C10 := C9.trans S10
    have Na8 : H a8 = none := g1.none (none_of C10 ha8)
    have C11 := C10.trans S11
    have C12 := C11.trans Sm0
    have Nb0 : H b0 = none := g1.none (none_of C12 hb0)
    have C13 := C12.trans S13
    have Nb1 : H b1 = none := g1.none (none_of C13 hb1)
    have C14 := C13.trans S14
    have Nb3i : H b3i = none := g1.none (none_of C14 hb3i)
    have C15 := C14.trans S15
    have Nb3 : H b3 = none := g1.none (none_of C15 hb3)
    have up : ∀ b o, H b = none → (upd H17 m2 (.lst ([V.ref a0, V.ref a1, V.ref a2, V.ref a3, V.ref a4, V.ref a5, V.ref a6, V.ref a7, V.ref a8] ++ [V.ref b0, V.ref b1, V.str "", V.ref b3]))) b = some o → ∀ H'' : Hp, (∀ b o, H b = none → H' b = some o → H'' b = some o) → H'' b = some o := by
      intro b o n e H'' h
      refine h b o n (g.but b o (fun z => ?_) e)
      obtain ⟨a1, r, dd, m, t, S⟩ := pn
      rw [z, S.pd] at n
      cases n
    have v : ∃ d, VdN K H H' x d := by
      rcases List.mem_append.mp mx with mx | mx
      · simp only [List.mem_cons, List.not_mem_nil, or_false] at mx
        rcases mx with rfl | rfl | rfl | rfl | rfl | rfl | rfl | rfl | rfl
        · exact ⟨_, fun H'' h => vd_tup (up _ _ Na0 (SL _ _ (Z3 _ _ Ea0)) H'' h) .nil (by show 0 ≤ 4; decide)⟩
        · exact ⟨_, fun H'' h => vd_tup (up _ _ Na1 (SL _ _ (Z4 _ _ Ea1)) H'' h) .nil (by show 0 ≤ 4; decide)⟩
        · exact ⟨_, fun H'' h => vd_tup (up _ _ Na2 (SL _ _ (Z5 _ _ Ea2)) H'' h) (.cons wf.fi .nil) (by show 1 ≤ 4; decide)⟩
        · exact ⟨_, fun H'' h => vd_lst (up _ _ Na3 (SL _ _ (Z6 _ _ Ea3)) H'' h) (.cons wss.fi .nil) (by show 1 ≤ 4; decide)⟩
        · exact ⟨_, fun H'' h => vd_tup (up _ _ Na4 (SL _ _ (Z7 _ _ Ea4)) H'' h) (.cons wf.fi (.cons wss.fi .nil)) (by show 2 ≤ 4; decide)⟩
        · exact ⟨_, fun H'' h => vd_lst (up _ _ Na5 (SL _ _ (Z8 _ _ Ea5)) H'' h) (.cons wt.fi (.cons wf.fi .nil)) (by show 2 ≤ 4; decide)⟩
        · exact ⟨_, fun H'' h => vd_tup (up _ _ Na6 (SL _ _ (Z9 _ _ Ea6)) H'' h) (.cons wf.fi (.cons wf.fi .nil)) (by show 2 ≤ 4; decide)⟩
        · exact ⟨_, fun H'' h => vd_tup (up _ _ Na7 (SL _ _ (Z10 _ _ Ea7)) H'' h) (.cons hn.fi .nil) (by show 1 ≤ 4; decide)⟩
        · exact ⟨_, fun H'' h => vd_lst (up _ _ Na8 (SL _ _ (Z11 _ _ Ea8)) H'' h) (.cons wss.fi (.cons hn.fi .nil)) (by show 2 ≤ 4; decide)⟩
      · simp only [List.mem_cons, List.not_mem_nil, or_false] at mx
        rcases mx with rfl | rfl | rfl | rfl
        · exact ⟨_, fun H'' h => vd_tup (up _ _ Nb0 (SL _ _ (Z13 _ _ Eb0)) H'' h) (.cons wf.fi (.cons wss.fi (.cons wt.fi .nil))) (by show 3 ≤ 4; decide)⟩
        · exact ⟨_, fun H'' h => vd_tup (up _ _ Nb1 (SL _ _ (Z14 _ _ Eb1)) H'' h) (.cons wf.fi (.cons fi_one .nil)) (by show 2 ≤ 4; decide)⟩
        · exact ⟨_, fun H'' h => vd_str (by decide +kernel) (by decide +kernel)⟩
        · exact ⟨_, fun H'' h => vd_lst (up _ _ Nb3 (SL _ _ (Z16 _ _ Eb3)) H'' h) (.cons (fi_nil (SqL.of (up _ _ Nb3i (SL _ _ (Z15 _ _ Eb3i)) H'' h))) .nil) (by show 1 ≤ 4; decide)⟩
    obtain ⟨d, v⟩ := v
    exact k x d H' v (gB.trans g)
end
end Wp
set_option Elab.async false
set_option linter.all false
set_option maxRecDepth 100000
set_option maxHeartbeats 4000000
namespace Wp
open PySem L2
/-- a value of the law, made of new things other than l -/
def VdL (K : PySem.W.Frag) (H0 H : Hp) (l : Addr) (v : V) (d : PyData) : Prop := ∀ H'' : Hp, (∀ b o, H0 b = none → b ≠ l → H b = some o → H'' b = some o) → Vd K H'' v d
theorem VdL.here {K : PySem.W.Frag} {H0 H : Hp} {l : Addr} {v : V} {d : PyData} (h : VdL K H0 H l v d) : Vd K H v d := h H fun _ _ _ _ e => e
theorem VdL.step {K : PySem.W.Frag} {p c : Addr} {ns : List Int} {H0 H H' : Hp} {l : Addr} {v : V} {d : PyData} (pn : Pn p c ns H0) (h : VdL K H0 H l v d) (e : ∀ b o, b ≠ p → b ≠ l → H b = some o → H' b = some o) : VdL K H0 H' l v d := by
  intro H'' k
  refine h H'' fun b o n nl q => k b o n nl (e b o (fun z => ?_) nl q)
  obtain ⟨a1, r, dd, m, t, S⟩ := pn
  rw [z, S.pd] at n
  cases n
/-- the five parts of a field at l -/
structure PartsAt (K : PySem.W.Frag) (H0 H : Hp) (l : Addr) (vs : List V) (ds : List PyData) : Prop where
  eq : H l = some (.lst vs)
  vd : Paired (VdL K H0 H l) vs ds
  len : ds.length = 5
theorem PartsAt.go {K : PySem.W.Frag} {p c : Addr} {ns : List Int} {H0 H H' : Hp} {l : Addr} {vs : List V} {ds : List PyData} (h : PartsAt K H0 H l vs ds) (pn0 : Pn p c ns H0) (pn : Pn p c ns H) (g : Go p c ns H H') : PartsAt K H0 H' l vs ds :=
  ⟨g.but _ _ (Go.ne pn h.eq (by intro x z; cases z)) h.eq, L2.Paired.mapP h.vd fun _ _ z => VdL.step pn0 z fun b o np _ q => g.but b o np q, h.len⟩
def spFP (K : PySem.W.Frag) : Sp := fun vs H Q _ => ∃ (p c : Addr) (ns : List Int) (qn qp : Addr) (ks ws : List Str) (sp : Int), vs = [.ref p, .ref qn, .ref qp, .int sp] ∧ Pn p c ns H ∧ Names K H qn ks ∧ ks.length = 3 ∧ Pool K H qp ws ∧ ws.length = 12 ∧ 0 ≤ sp ∧ sp ≤ 3 ∧
  ∀ (l : Addr) (us : List V) (ds : List PyData) (H' : Hp), H l = none → PartsAt K H H' l us ds → Go p c ns H H' → Q (.ref l) H'
abbrev restFP (K : PySem.W.Frag) : TS := tSeq (tAsg (tLst (tCons (tVar 4) (tCons (tVar 5) (tCons (tVar 6) (tCons (tVar 7) (tCons (tCall (spEld K) [] L2.E0 (tCons (tVar 0) (tCons (tVar 4) (tCons (tVar 2) tNil)))) tNil)))))) (gName 8))
  (tSeq (tFor (iRng1 (tCons (tCall (spOne K) [] L2.E0 (tCons (tVar 0) (tCons (tLst (tCons (tC (.int 0)) (tCons (tC (.int 0)) (tCons (tC (.int 1)) (tCons (tVar 3) tNil))))) tNil))) tNil)) (gName 9)
      (tAsg (tCall (spOdd K) [] L2.E0 (tCons (tVar 0) tNil)) (gSub (tVar 8) (tCall spTake [] L2.E0 (tCons (tVar 0) (tCons (tC (.int 5)) tNil))) rSetL))) (tRet (tVar 8)))
theorem paired_set {α β : Type} {F : α → β → Prop} : ∀ {xs : List α} {ys : List β} (j : Nat) {x : α} {y : β}, Paired F xs ys → F x y → Paired F (xs.set j x) (ys.set j y)
  | _, _, j, _, _, .nil, _ => by simpa using Paired.nil
  | _, _, 0, _, _, .cons r t, h => .cons h t
  | _, _, j + 1, _, _, .cons r t, h => .cons r (paired_set j t h)
theorem fp_rest {K : PySem.W.Frag} {p c qn qp : Addr} {ns : List Int} {H0 H : Hp} {ws : List Str} {sp : Int} {nm md : Str} {tg df : V} {dt dd : PyData} {w8 w9 : Option V} {D : Ends} (pn : Pn p c ns H0) (g : Go p c ns H0 H) (po : Pool K H0 qp ws) (lw : ws.length = 12) (s0 : 0 ≤ sp) (s1 : sp ≤ 3)
    (wn : IsW nm) (vm : ∀ H'', Vd K H'' (.str md) (.str md)) (vt : ∀ H'', Vd K H'' tg dt) (vf : ∀ H'', Vd K H'' df dd)
    (k : ∀ (l : Addr) (us : List V) (ds : List PyData) (H' : Hp), H0 l = none → PartsAt K H0 H' l us ds → Go p c ns H0 H' → D.rt (.ref l) H') :
    restFP K D [some (.ref p), some (.ref qn), some (.ref qp), some (.int sp), some (.str nm), some (.str md), some tg, some df, w8, w9] H := by
  refine ⟨_, rfl, _, rfl, _, rfl, _, rfl, _, rfl, _, rfl, _, rfl, p, c, ns, nm, qp, ws, rfl, g.pn, wn, po.go pn g, lw, fun xe de H1 ve g1 => ⟨by show 5 ≤ sizeLine; decide, fun l hl => ?_⟩⟩
  have g01 := g.trans g1
  have nl : H0 l = none := Go.none g01 hl
  have g2 := g01.trans (Go.new (o := .lst [.str nm, .str md, tg, df, xe]) g01.pn hl)
  have P0 : PartsAt K H0 (upd H1 l (.lst [.str nm, .str md, tg, df, xe])) l [.str nm, .str md, tg, df, xe] [.str nm, .str md, dt, dd, de] := by
    refine ⟨upd_same, .cons (fun H'' _ => wn.vd) (.cons (fun H'' _ => vm H'') (.cons (fun H'' _ => vt H'') (.cons (fun H'' _ => vf H'') (.cons (fun H'' h => ve H'' fun b o n e => ?_) .nil)))), rfl⟩
    have nb : b ≠ l := fun z => by rw [z, hl] at e; cases e
    exact h b o (Go.none g n) nb (by rw [upd_ne nb]; exact e)
  generalize upd H1 l (.lst [.str nm, .str md, tg, df, xe]) = H2 at g2 P0 ⊢
  refine ⟨_, rfl, _, rfl, by show 4 ≤ sizeLine; decide, fun l2 hl2 => ?_⟩
  have n2 := Go.new (o := .lst [.int 0, .int 0, .int 1, .int sp]) g2.pn hl2
  have P1 := P0.go pn g2.pn n2
  have g3 := g2.trans n2
  have E3 : upd H2 l2 (.lst [.int 0, .int 0, .int 1, .int sp]) l2 = some (.lst [.int 0, .int 0, .int 1, .int sp]) := upd_same
  generalize upd H2 l2 (.lst [.int 0, .int 0, .int 1, .int sp]) = H3 at P1 g3 E3 ⊢
  dsimp only [tNil, List.append_nil]
  refine one_go g3.pn (SqL.of E3) (by show 0 < 4; decide) (by show 4 ≤ 1000; decide) fun x4 H4 m4 g4 => ?_
  obtain ⟨cnt, rfl, c0, c1⟩ : ∃ cnt : Int, x4 = .int cnt ∧ 0 ≤ cnt ∧ cnt ≤ 3 := by
    simp only [List.mem_cons, List.not_mem_nil, or_false] at m4
    rcases m4 with rfl | rfl | rfl | rfl
    · exact ⟨0, rfl, by decide, by decide⟩
    · exact ⟨0, rfl, by decide, by decide⟩
    · exact ⟨1, rfl, by decide, by decide⟩
    · exact ⟨sp, rfl, s0, s1⟩
  have P2 := P1.go pn g3.pn g4
  have g5 := g3.trans g4
  refine ⟨cnt, rfl, by omega, by omega, ?_⟩
  refine for_it (g := gName 9) (tb := tAsg (tCall (spOdd K) [] L2.E0 (tCons (tVar 0) tNil)) (gSub (tVar 8) (tCall spTake [] L2.E0 (tCons (tVar 0) (tCons (tC (.int 5)) tNil))) rSetL)) (D := { D with nx := tRet (tVar 8) D }) walk_range (fun i σ H' => Go p c ns H0 H' ∧ ∃ (us : List V) (ds : List PyData) (v9 : Option V), σ = [some (.ref p), some (.ref qn), some (.ref qp), some (.int sp), some (.str nm), some (.str md), some tg, some df, some (.ref l), v9] ∧ PartsAt K H0 H' l us ds)
    ⟨g5, _, _, w9, rfl, P2⟩ (fun _ _ _ _ _ => trivial) ?_ ?_
  · rintro i y σ H5 H6 hi ⟨go, us, ds, v9, rfl, pa⟩ ⟨rfl, rfl⟩
    refine ⟨_, rfl, p, c, ns, rfl, go.pn, fun x dx H7 vx g7 => ⟨_, rfl, _, rfl, ?_⟩⟩
    dsimp only [tCons, tC, tNil, List.append_nil]
    have P3 := pa.go pn go.pn g7
    have go7 := go.trans g7
    refine take_go (b := 5) go7.pn (by decide) (by decide) fun v H8 v0 v1 g8 => ?_
    have P4 := P3.go pn go7.pn g8
    have go8 := go7.trans g8
    obtain ⟨j, rfl⟩ := Int.eq_ofNat_of_zero_le v0
    have lu : us.length = 5 := P4.vd.length.trans P4.len
    refine ⟨l, us, _, j, rfl, rfl, P4.eq, by unfold ixN; rw [if_pos (by omega), if_pos (by omega)]; simp, ?_⟩
    refine ⟨Go.over pn go8 nl, us.set j x, ds.set j dx, _, rfl, upd_same, ?_, by rw [List.length_set, P4.len]⟩
    have e : ∀ b o, b ≠ p → b ≠ l → H8 b = some o → upd H8 l (.lst (us.set j x)) b = some o := fun b o _ nb q => by
      rw [upd_ne nb]
      exact q
    refine paired_set j (L2.Paired.mapP P4.vd fun _ _ z => VdL.step pn z e) ?_
    have vl : VdL K H0 H7 l x dx := fun H'' h => vx H'' fun b o n q => h b o (Go.none go n) (fun z => by rw [z, pa.eq] at n; cases n) q
    have vl8 : VdL K H0 H8 l x dx := VdL.step pn vl fun b o np _ q => g8.but b o np q
    exact VdL.step pn vl8 e
  · rintro σ H5 ⟨go, us, ds, v9, rfl, pa⟩
    exact ⟨_, rfl, k l us ds H5 nl pa go⟩
section
variable {P : Program} {w : World} {K : PySem.W.Frag} {mg : Str → Option Value} {base : Heap}
abbrev lFP : Stmt := top 47
theorem scLFP : FnScope ["_law_pen_here", "_law_names", "_law_pool", "_law_spoils", "_law_name", "_law_mode", "_law_own_target", "_law_own_default", "_law_parts", "_law_k"] ["_law_pen_here", "_law_names", "_law_pool", "_law_spoils"] (defScope lFP) := ⟨rfl, rfl, rfl, by decide +kernel, rfl, by decide +kernel, by decide +kernel⟩
theorem ok_lFP {f f1 f2 f3 f4 : Addr} {fd fd1 fd2 fd3 fd4 : FuncData} (F : Fun K "_law_field_parts" "_law_field_parts" lFP f fd) (B : Bn mg) (T : Known P w K mg base CX0 1 "_law_take" ["_law_pen_here", "_law_bound"] spTake f2 fd2) (O : Known P w K mg base CX0 2 "_law_one_of" ["_law_pen_here", "_law_menu"] (spOne K) f1 fd1)
    (E : Known P w K mg base CX0 3 "_law_elder" ["_law_pen_here", "_law_name", "_law_pool"] (spEld K) f3 fd3) (D : Known P w K mg base CX0 3 "_law_odd" ["_law_pen_here"] (spOdd K) f4 fd4) :
    FnOk P w K mg base CX0 4 f fd ["_law_pen_here", "_law_names", "_law_pool", "_law_spoils"] (spFP K) := by
  refine F.ok scLFP (fun vs H Q E h => ?_) (fun cdv A outer s H vs Q Ex hr h => ?_)
  · obtain ⟨p, c, ns, qn, qp, ks, ws, sp, rfl, _⟩ := h
    rfl
  · obtain ⟨p, c, ns, qn, qp, ks, ws, sp, rfl, pn, nm, lk, po, lw, s0, s1, k⟩ := h
    refine ⟨_, pss_cons (ps_set (i := 4) scLFP.nd rfl (.inl rfl) (pe_call O.ok (hr.mono (by decide)) rfl O.mg O.kp O.bi .nil pass0 (pa_cons (pv 0) (pa_cons (pv 2) pa_nil))))
      (pss_cons (ps_set (i := 5) scLFP.nd rfl (.inl rfl) (pe_call O.ok (hr.mono (by decide)) rfl O.mg O.kp O.bi .nil pass0 (pa_cons (pv 0) (pa_cons (pe_lst (pa_cons pe_str (pa_cons pe_str (pa_cons pe_str (pa_cons pe_str pa_nil))))) pa_nil))))
      (pss_cons (ps_set (i := 6) scLFP.nd rfl (.inl rfl) pe_non)
      (pss_cons (ps_set (i := 7) scLFP.nd rfl (.inl rfl) pe_int)
      (pss_cons (ps_if (pt_cmpR op_eq (pv 5) pe_str (nomark _))
        (pss_one (ps_set (i := 7) scLFP.nd rfl (.inl rfl) (pe_call O.ok (hr.mono (by decide)) rfl O.mg O.kp O.bi .nil pass0 (pa_cons (pv 0) (pa_cons (pe_lst (pa_cons pe_int (pa_cons pe_int (pa_cons (pe_call T.ok (hr.mono (by decide)) rfl T.mg T.kp T.bi .nil pass0 (pa_cons (pv 0) (pa_cons (pe_op op_pow pe_int pe_int) pa_nil)))
            (pa_cons (pe_op op_sub (pe_op op_pow pe_int pe_int) pe_int) (pa_cons (pe_op op_sub pe_int (pe_op op_pow pe_int pe_int)) (pa_cons (pe_op op_pow pe_int pe_int) (pa_cons (pe_un un_neg (pe_op op_pow pe_int pe_int)) pa_nil)))))))) pa_nil)))))
        (pss_one (ps_set (i := 6) scLFP.nd rfl (.inl rfl) (pe_call O.ok (hr.mono (by decide)) rfl O.mg O.kp O.bi .nil pass0 (pa_cons (pv 0) (pa_cons (pe_op op_cat (pv 1) (pe_lst (pa_cons pe_str pa_nil))) pa_nil))))))
      (pss_cons (ps_set (i := 8) scLFP.nd rfl (.inl rfl) (pe_lst (pa_cons (pv 4) (pa_cons (pv 5) (pa_cons (pv 6) (pa_cons (pv 7) (pa_cons (pe_call E.ok hr rfl E.mg E.kp E.bi .nil pass0 (pa_cons (pv 0) (pa_cons (pv 4) (pa_cons (pv 2) pa_nil)))) pa_nil)))))))
      (pss_cons (ps_for PassesOwn.never rfl (pi_range1 rfl B.range (pa_cons (pe_call O.ok (hr.mono (by decide)) rfl O.mg O.kp O.bi .nil pass0 (pa_cons (pv 0) (pa_cons (pe_lst (pa_cons pe_int (pa_cons pe_int (pa_cons pe_int (pa_cons (pv 3) pa_nil))))) pa_nil))) pa_nil)) (pg_name (i := 9) scLFP.nd rfl (Or.inl rfl))
        (pss_one (ps_asg (pe_call D.ok hr rfl D.mg D.kp D.bi .nil pass0 (pa_cons (pv 0) pa_nil)) (pg_sub (pv 8) (pe_call T.ok (hr.mono (by decide)) rfl T.mg T.kp T.bi .nil pass0 (pa_cons (pv 0) (pa_cons pe_int pa_nil))) set_list))))
      (pss_one (ps_ret (pv 8))))))))), ?_⟩
    refine ⟨_, rfl, _, rfl, ?_⟩
    dsimp only [tNil, List.append_nil]
    refine one_go pn po.sq (by rw [List.length_map, lw]; decide) (by rw [List.length_map, lw]; decide) fun x1 H1 m1 g1 => ?_
    obtain ⟨nm1, w1, rfl⟩ : ∃ n, IsW n ∧ x1 = V.str n := by
      obtain ⟨n, hn, e⟩ := List.mem_map.mp m1
      exact ⟨n, po.ok n hn, e.symm⟩
    refine ⟨_, rfl, by show 4 ≤ sizeLine; decide, fun l1 hl1 => ?_⟩
    dsimp only [tNil, List.append_nil]
    have g2 := g1.trans (Go.new (o := .lst [.str "mark", .str "link", .str "list", .str "mark"]) g1.pn hl1)
    refine one_go g2.pn (SqL.of upd_same) (by decide) (by decide) fun x2 H2 m2 g3 => ?_
    have g13 := g2.trans g3
    obtain ⟨md, e2, vmd⟩ : ∃ m : Str, x2 = .str m ∧ ∀ H'', Vd K H'' (.str m) (.str m) := by
      simp only [List.mem_cons, List.not_mem_nil, or_false] at m2
      rcases m2 with rfl | rfl | rfl | rfl <;> exact ⟨_, rfl, fun _ => vd_str (by decide +kernel) (by decide +kernel)⟩
    subst e2
    refine ⟨_, rfl, rfl, _, rfl, ?_⟩
    refine ite2 (fun hm => ?_) (fun hm => ?_)
    · refine ⟨_, rfl, _, rfl, _, _, rfl, rfl, ⟨by decide, by decide, by decide⟩, ?_⟩
      dsimp only [tCons, tC, tNil, List.append_nil]
      refine take_go (b := (10 : Int) ^ (9 : Int).toNat) g13.pn (by decide) (by decide) fun v H3 v0 v1 g4 => ?_
      have g14 := g13.trans g4
      refine ⟨_, _, rfl, rfl, ⟨by decide, by decide, by decide⟩, _, _, rfl, rfl, _, _, rfl, rfl, ⟨by decide, by decide, by decide⟩, _, _, rfl, rfl, _, _, rfl, rfl, ⟨by decide, by decide, by decide⟩, _, _, rfl, rfl, ⟨by decide, by decide, by decide⟩, _, rfl, by show 7 ≤ sizeLine; decide, fun l3 hl3 => ?_⟩
      have n3 := fun o => Go.new (o := o) g14.pn hl3
      dsimp only [tNil, List.append_nil]
      refine one_go (n3 _).pn (SqL.of upd_same) (by show 0 < 7; decide) (by show 7 ≤ 1000; decide) fun x5 H5 m5 g5 => ?_
      obtain ⟨iv, rfl, bi⟩ : ∃ i : Int, x5 = .int i ∧ i.natAbs < 10 ^ 35 := by
        simp only [List.mem_cons, List.not_mem_nil, or_false] at m5
        have e9 : ((10 : Int) ^ (9 : Int).toNat) = 1000000000 := by decide
        rw [e9] at v1
        rcases m5 with rfl | rfl | rfl | rfl | rfl | rfl | rfl
        · exact ⟨_, rfl, by decide +kernel⟩
        · exact ⟨_, rfl, by decide +kernel⟩
        · exact ⟨_, rfl, by omega⟩
        · exact ⟨_, rfl, by decide +kernel⟩
        · exact ⟨_, rfl, by decide +kernel⟩
        · exact ⟨_, rfl, by decide +kernel⟩
        · exact ⟨_, rfl, by decide +kernel⟩
      exact fp_rest pn (g14.trans ((n3 _).trans g5)) po lw s0 s1 w1 vmd (fun _ => vd_none) (fun _ => vd_int bi) k
    · refine ⟨_, rfl, _, rfl, by show 1 ≤ sizeLine; decide, fun l3 hl3 => ?_⟩
      have nm2 := nm.go pn g13
      have n3 := fun o => Go.new (o := o) g13.pn hl3
      have ne3 : qn ≠ l3 := ne_of_none nm2.eq hl3
      refine ⟨qn, l3, _, _, rfl, rfl, (upd_ne ne3).trans nm2.eq, upd_same, by rw [List.length_map, lk]; decide, fun l4 hl4 => ?_⟩
      have n4 := fun o => Go.new (o := o) (n3 _).pn hl4
      dsimp only [tNil, List.append_nil]
      refine one_go (n4 _).pn (SqL.of upd_same) (by simp) (by rw [List.length_append, List.length_map, lk]; decide) fun x5 H5 m5 g5 => ?_
      obtain ⟨tx, rfl, vt⟩ : ∃ t : Str, x5 = .str t ∧ ∀ H'', Vd K H'' (.str t) (.str t) := by
        rcases List.mem_append.mp m5 with m5 | m5
        · obtain ⟨t, ht, e⟩ := List.mem_map.mp m5
          exact ⟨t, e.symm, fun _ => (nm.ok t ht).vd⟩
        · rw [List.mem_singleton] at m5
          exact ⟨_, m5, fun _ => vd_str (by decide +kernel) (by decide +kernel)⟩
      exact fp_rest pn (g13.trans ((n3 _).trans ((n4 _).trans g5))) po lw s0 s1 w1 vmd vt (fun _ => vd_int (by decide +kernel)) k
end
end Wp
set_option Elab.async false
set_option linter.all false
set_option maxRecDepth 100000
set_option maxHeartbeats 4000000
namespace Wp
open PySem L2
def good (n : Str) (x : PyData) : Bool := isFieldName x && !isTxt x n
theorem good_all (n : Str) : ∀ ds : List PyData, ds.all (good n) = (ds.all isFieldName && !(txts ds).contains n)
  | [] => rfl
  | x :: ds => by
    rw [List.all_cons, List.all_cons, good_all n ds]
    cases x with
    | str y =>
      show (isFieldName (.str y) && !decide (y = n) && (ds.all isFieldName && !(txts ds).contains n)) = (isFieldName (.str y) && ds.all isFieldName && !(y :: txts ds).contains n)
      rw [List.contains_cons, str_beq_decide]
      by_cases e : y = n
      · subst e
        simp
      · rw [decide_eq_false e, decide_eq_false fun z => e z.symm]
        cases isFieldName (.str y) <;> simp
    | _ => simp [good, isFieldName, isWordN]
section
variable {P : Program} {w : World} {K : PySem.W.Frag} {mg : Str → Option Value} {base : Heap}
abbrev lER : Stmt := top 48
theorem scLER : FnScope ["_law_name", "_law_own_was", "_law_one"] ["_law_name", "_law_own_was"] (defScope lER) := ⟨rfl, rfl, rfl, by decide +kernel, rfl, by decide +kernel, by decide +kernel⟩
theorem ok_lER {f f1 : Addr} {fd fd1 : FuncData} (F : Fun K "_law_elder_right" "_law_elder_right" lER f fd) (B : Bn mg) (N : Known P w K mg base CX0 2 "_law_is_field_name" ["_law_thing"] (spIsField K) f1 fd1) : FnOk P w K mg base CX0 3 f fd ["_law_name", "_law_own_was"] (spWas K) := by
  refine F.ok scLER (fun vs H Q E h => ?_) (fun cdv A outer s H vs Q E hr h => ?_)
  · obtain ⟨n, v, d, rfl, _⟩ := h
    rfl
  · obtain ⟨n, v, d, rfl, q, sh, k⟩ := h
    refine ⟨_, pss_cons (ps_if (PW.pt (pw_or (pt_not (pt_val (pe_callB call_isiT (by rfl) B.isi boot_isi (pa_cons (pv 1) (pa_cons (pe_tup (pa_cons (pe_bltn (v := .ty "list") (by rfl) B.list PyProof.Rows.boot_list rfl) (pa_cons (pe_bltn (v := .ty "tuple") (by rfl) B.tuple boot_ttuple rfl) pa_nil))) pa_nil)))))
          (pw_or1 (pt_cmpR op_gt (pe_callB call_len_seq (by rfl) B.len PySem.boot_len (pa_cons (pv 1) pa_nil)) pe_int (nomark _)))))
        (pss_one (ps_ret pe_bl)) pss_nil)
      (pss_cons (ps_if (pt_cmpR op_gt (pe_callB call_len_seq (by rfl) B.len PySem.boot_len (pa_cons (pe_lc (own := [("_law_one", 2)]) (g := gName 2) (te := tVar 2) rfl scLER.nd (pi_seqV (i := 1) (pv 1))
          (blkOk_by (N := ["_law_name", "_law_own_was", "_law_one"]) (sc := defScope lER) (by decide +kernel)) (fun _ _ _ _ _ => pg_name (i := 2) scLER.nd rfl (Or.inl rfl))
          (fun _ _ _ _ _ => pts_one (PW.pt (pw_or (pt_not (pt_val (pe_call N.ok hr rfl N.mg N.kp N.bi .nil pass0 (pa_cons (pv 2) pa_nil)))) (pw_or1 (pt_cmpR op_eq (pv 2) (pv 0) (nomark _))))))
          (fun _ _ _ _ _ => pv 2)) pa_nil)) pe_int (nomark _))
        (pss_one (ps_ret pe_bl)) pss_nil)
      (pss_one (ps_ret (pe_or (pe_cmpR op_lt (pe_callB call_len_seq (by rfl) B.len PySem.boot_len (pa_cons (pv 1) pa_nil)) pe_int (nomark _))
        (pe_one (pe_cmpR op_ne (pe_ix (ix_list.or ix_tup) (pv 1) pe_int (fun _ _ => rfl)) (pe_ix (ix_list.or ix_tup) (pv 1) pe_int (fun _ _ => rfl)) (nomark _)))))) ), ?_⟩
    refine ⟨_, rfl, by show 2 ≤ sizeLine; decide, fun T hT => ?_⟩
    have s1 : Same H (upd H T (.tup [.ty "list", .ty "tuple"])) := same_new hT
    have q1 := q.same s1
    refine ⟨v, T, [.ty "list", .ty "tuple"], _, [.type "list", .type "tuple"], _, rfl, upd_same, .cons (.ty _) (.cons (.ty _) .nil), q1.ty, kit_seq d, _, rfl, ?_⟩
    generalize upd H T (.tup [.ty "list", .ty "tuple"]) = H1 at s1 q1 ⊢
    cases e : seqOf d with
    | none =>
      have e1 : (isLst d || isTup d) = false := by cases d <;> first | rfl | cases e
      have e2 : wasRight n d = false := by
        simp only [wasRight, e]
      rw [e1]
      have r := k _ s1
      rw [e2] at r
      exact r
    | some ds =>
      have e1 : (isLst d || isTup d) = true := by cases d <;> first | rfl | cases e
      rw [e1]
      obtain ⟨a, vs, rfl, sq, da, shp⟩ := q1.seq e
      have eW : wasRight n d = (decide (ds.length ≤ 2) && ds.all (good n) && decide (txts ds).Nodup) := by
        simp only [wasRight, e]
        rw [good_all]
        simp [Bool.and_assoc]
      obtain ⟨len, get⟩ := dpAll_get da
      have sq2 : SqL K H1 a vs ∨ SqT K H1 a vs := sq.imp And.left And.left
      refine ⟨_, rfl, a, vs, rfl, sq2, _, _, rfl, rfl, _, rfl, ?_⟩
      cases e2 : decide (2 < (vs.length : Int)) with
      | true =>
        have r := k _ s1
        have e3 : ¬ ds.length ≤ 2 := by
          have := of_decide_eq_true e2
          omega
        rw [eW, decide_eq_false e3, Bool.false_and, Bool.false_and] at r
        exact r
      | false =>
        have e3 : ds.length ≤ 2 := by
          have := of_decide_eq_false e2
          omega
        refine ⟨a, vs, rfl, sq2, fun J G w hG D0 hD0 => ?_⟩
        refine lc_it w (fun j H' => Same H1 H' ∧ ∃ acc : List V, H' D0 = some (.lst acc) ∧ acc.length ≤ j ∧ (acc = [] ↔ (ds.take j).all (good n) = true)) ⟨same_new hD0, [], upd_same, Nat.le_refl _, by simp⟩ (fun j H' _ z => hG H' (.of z.1)) ?_ ?_
        · rintro j x H2 H3 hj ⟨sm, acc, eD, la, ia⟩ ⟨rfl, hx⟩
          obtain ⟨d1, g1, g2⟩ := get j x hx
          have m1 : d1 ∈ ds := List.mem_of_getElem? g1
          have qx : Dq K H3 x d1 := .dat (dp_same sm g2) (shp _ m1)
          have tk : ds.take (j + 1) = ds.take j ++ [d1] := by
            rw [List.take_add_one, g1]
            rfl
          have yes : ∀ H4, Same H3 H4 → good n d1 = true → Same H1 H4 ∧ ∃ acc : List V, H4 D0 = some (.lst acc) ∧ acc.length ≤ j + 1 ∧ (acc = [] ↔ (ds.take (j + 1)).all (good n) = true) := fun H4 s4 gd =>
            ⟨sm.trans s4, acc, s4 _ _ eD, by omega, by rw [tk, List.all_append, List.all_cons, gd]; simpa using ia⟩
          have noo : ∀ H4, Same H3 H4 → good n d1 = false → Same H1 (upd H4 D0 (.lst (acc ++ [x]))) ∧ ∃ acc' : List V, upd H4 D0 (.lst (acc ++ [x])) D0 = some (.lst acc') ∧ acc'.length ≤ j + 1 ∧ (acc' = [] ↔ (ds.take (j + 1)).all (good n) = true) := by
            intro H4 s4 gd
            refine ⟨fun b o z => ?_, _, upd_same, by simp; omega, ?_⟩
            · rw [upd_ne (ne_of_none z hD0)]
              exact s4 _ _ (sm _ _ z)
            · rw [tk, List.all_append, List.all_cons, gd]
              simp
          have size : acc.length < sizeLine := by
            rw [sizeLine_eq]
            omega
          refine ⟨rfl, ⟨_, rfl, x, d1, rfl, qx, sh ds e _ m1, fun H4 s4 => ⟨_, rfl, ?_⟩⟩⟩
          cases e5 : isFieldName d1 with
          | false => exact ⟨_, rfl, acc, s4 _ _ eD, size, noo H4 s4 (by simp only [good, e5, Bool.false_and])⟩
          | true =>
            obtain ⟨y, rfl⟩ : ∃ y, d1 = .str y := by
              cases d1 <;> first | exact ⟨_, rfl⟩ | exact absurd e5 (by simp [isFieldName, isWordN])
            obtain rfl := qx.str_of
            refine ⟨_, rfl, _, rfl, rfl, _, rfl, ?_⟩
            by_cases z : y = n
            · rw [decide_eq_true (p := V.str y = V.str n) (by rw [z])]
              exact ⟨_, rfl, acc, s4 _ _ eD, size, noo H4 s4 (by simp [good, isTxt, z])⟩
            · rw [decide_eq_false (p := V.str y = V.str n) fun q => z (by injection q)]
              exact yes H4 s4 (by simp [good, isTxt, z, e5])
        · rintro H2 ⟨sm, acc, eD, la, ia⟩
          have s12 := s1.trans sm
          rw [List.take_of_length_le (by omega)] at ia
          refine ⟨D0, acc, rfl, .inl (SqL.of eD), _, _, rfl, rfl, _, rfl, ?_⟩
          cases e6 : ds.all (good n) with
          | false =>
            have ne : acc ≠ [] := fun z => by rw [ia.mp z] at e6; cases e6
            have : 0 < acc.length := List.length_pos_iff.mpr ne
            rw [decide_eq_true (p := (0 : Int) < acc.length) (by omega)]
            have r := k _ s12
            rw [eW, e6, Bool.and_false, Bool.false_and] at r
            exact r
          | true =>
            obtain rfl := ia.mpr e6
            rw [show decide ((0 : Int) < (([] : List V).length : Nat)) = false from rfl]
            have e7 : ds.all isFieldName = true := by
              rw [good_all, Bool.and_eq_true] at e6
              exact e6.1
            obtain ⟨e8, e9⟩ := dpAll_txts da e7
            subst e8
            have sq3 : SqL K H2 a ((txts ds).map V.str) ∨ SqT K H2 a ((txts ds).map V.str) := sq2.imp (sqL_same sm) (sqT_same sm)
            refine ⟨_, rfl, a, _, rfl, sq3, _, _, rfl, rfl, _, rfl, ?_⟩
            have r := k _ s12
            rw [eW, e6, decide_eq_true e3, Bool.true_and, Bool.true_and] at r
            generalize txts ds = ts at r sq3 e9 ⊢
            match ts, e9, r, sq3 with
            | [], _, r, _ => exact r
            | [x], _, r, _ =>
              rw [show decide ([x] : List Str).Nodup = true from decide_eq_true (by simp)] at r
              exact r
            | [x, y], _, r, sq3 =>
              rw [if_neg (by simp)]
              have at0 : atI ([x, y].map V.str) 0 = some (V.str x) := atI_nat (j := 0) rfl
              have at1 : atI ([x, y].map V.str) 1 = some (V.str y) := atI_nat (j := 1) rfl
              have ix : ∀ (j : Int) (z : V) (R : VK), atI ([x, y].map V.str) j = some z → R z H2 → rIxL K (.ref a) (.int j) H2 R ∨ rIxT K (.ref a) (.int j) H2 R := fun j z R e r =>
                sq3.imp (fun sq => ⟨a, _, j, z, rfl, rfl, sq, e, r⟩) fun sq => ⟨a, _, j, z, rfl, rfl, sq, e, r⟩
              refine ⟨_, rfl, ix 0 _ _ at0 ⟨_, rfl, ix 1 _ _ at1 ⟨rfl, ?_⟩⟩⟩
              have e10 : (!decide (V.str x = V.str y)) = decide ([x, y] : List Str).Nodup := by
                by_cases z : x = y
                · subst z
                  simp
                · rw [decide_eq_false (p := V.str x = V.str y) fun q => z (by injection q)]
                  simp [z]
              rw [e10]
              exact r
            | x :: y :: z :: t, e9, _, _ =>
              simp at e9
              omega
end
end Wp
set_option Elab.async false
set_option linter.all false
set_option maxRecDepth 100000
set_option maxHeartbeats 4000000
namespace Wp
open PySem L2
open PySem.Builtin.Str (reprChar)
/-! ## what is shown tells plain values apart -/
theorem char_plain : (plainL.all fun c => reprChar 39 c == [c]) = true := by decide +kernel
theorem quote_free : 39 ∉ plainL := by decide +kernel
theorem fold_plain : ∀ (l : List Nat) (acc : Array Nat), (l.all fun c => decide (c ∈ plainL)) = true → (l.foldl (fun out c => out ++ (reprChar 39 c).toArray) acc).toList = acc.toList ++ l
  | [], acc, _ => by simp
  | c :: r, acc, h => by
    rw [List.all_cons, Bool.and_eq_true] at h
    have e : reprChar 39 c = [c] := by simpa using List.all_eq_true.mp char_plain c (of_decide_eq_true h.1)
    rw [List.foldl_cons, fold_plain r _ h.2, e]
    simp
theorem quote_plain {x : Str} (h : Pln x) : reprQuote x = 39 := by
  unfold reprQuote
  have : x.cps.contains 39 = false := by
    rw [Bool.eq_false_iff]
    intro z
    have m : 39 ∈ x.cps.toList := by simpa using z
    exact quote_free (of_decide_eq_true (List.all_eq_true.mp h 39 m))
  rw [this]
  rfl
theorem repr_plain {x : Str} (h : Pln x) : (reprText x).cps.toList = 39 :: (x.cps.toList ++ [39]) := by
  unfold reprText
  show ((x.cps.foldl (fun out c => out ++ (reprChar (reprQuote x) c).toArray) #[reprQuote x]).push (reprQuote x)).toList = _
  rw [Array.toList_push, ← Array.foldl_toList, quote_plain h, fold_plain _ _ h]
  rfl
theorem repr_inj {x y : Str} (hx : Pln x) (hy : Pln y) (e : reprText x = reprText y) : x = y := by
  have q : (reprText x).cps.toList = (reprText y).cps.toList := by rw [e]
  rw [repr_plain hx, repr_plain hy] at q
  injection q with _ q
  have q2 := List.append_cancel_right q
  exact Str.ext' (Array.toList_inj.mp q2)
end Wp
set_option Elab.async false
set_option linter.all false
set_option maxRecDepth 100000
set_option maxHeartbeats 4000000
namespace Wp
open PySem L2
theorem any_pln : Pln "any" := by unfold Pln; decide +kernel
theorem head_app {a b : Str} {c : Nat} (h : a.cps.toList.head? = some c) : (a ++ b).cps.toList.head? = some c := by
  rw [show (a ++ b).cps = a.cps ++ b.cps from rfl, Array.toList_append, List.head?_append, h]
  rfl
theorem from_head {c : Nat} : ∀ (ts : List Str) (k : Nat) (acc : Str), acc.cps.toList.head? = some c → (textFrom k acc ts).cps.toList.head? = some c
  | [], k, acc, h => h
  | t :: r, k, acc, h => from_head r (k + 1) _ (head_app (head_app h))
theorem list_head (ts : List Str) : (listText ts).cps.toList.head? = some 91 := by
  unfold listText
  exact head_app (from_head ts 0 _ (by decide +kernel))
theorem tuple_head (ts : List Str) : (tupleText ts).cps.toList.head? = some 40 := by
  unfold tupleText
  repeat (first | exact head_app (by decide +kernel) | apply head_app | split)
theorem dict_head (ts : List Str) : (dictText ts).cps.toList.head? = some 123 := by
  unfold dictText
  repeat (first | exact head_app (by decide +kernel) | apply head_app)
theorem str_head {x : Str} (h : Pln x) : (PyData.shown (.str x)).cps.toList.head? = some 39 := by
  simp only [PyData.shown]
  rw [repr_plain h]
  rfl
theorem int_head (i : Int) : (PyData.shown (.int i)).cps.toList.head? ≠ some 39 := by
  intro h
  have m : 39 ∈ (PyData.int i).shown.cps.toList := by
    cases e : (PyData.int i).shown.cps.toList with
    | nil =>
      rw [e] at h
      cases h
    | cons a r =>
      rw [e] at h
      cases h
      exact List.mem_cons_self
  exact (PyProof.Rows.shown_int_free_39 i).mp m
/-- it is shown as 'text' only if it is that text -/
theorem shown_txt {d : PyData} {z : Str} (hd : PlnD d) (hz : Pln z) : decide (d.shown = (PyData.str z).shown) = isTxt d z := by
  have hh := str_head hz
  have no : d.shown.cps.toList.head? ≠ some 39 → decide (d.shown = (PyData.str z).shown) = false := fun ne => decide_eq_false fun e => ne (by rw [e]; exact hh)
  cases d with
  | str x =>
    by_cases e : x = z
    · subst e
      simp [isTxt]
    · rw [decide_eq_false]
      · simp [isTxt, e]
      · intro q
        simp only [PyData.shown] at q
        exact e (repr_inj hd hz q)
  | none => exact no (by decide +kernel)
  | bool b => exact no (by cases b <;> decide +kernel)
  | int i => exact no (int_head i)
  | list ds =>
    refine no ?_
    simp only [PyData.shown]
    rw [list_head]
    decide
  | tuple ds =>
    refine no ?_
    simp only [PyData.shown]
    rw [tuple_head]
    decide
  | dict kvs =>
    refine no ?_
    simp only [PyData.shown]
    rw [dict_head]
    decide
end Wp
set_option Elab.async false
set_option linter.all false
set_option maxRecDepth 100000
set_option maxHeartbeats 4000000
namespace Wp
open PySem L2
def sepL (k : Nat) : List Nat := if k > 0 then [44, 32] else []
def bodyL (k : Nat) : List Str → List Nat
  | [] => []
  | t :: r => sepL k ++ t.cps.toList ++ bodyL (k + 1) r
theorem from_list : ∀ (ts : List Str) (k : Nat) (acc : Str), (textFrom k acc ts).cps.toList = acc.cps.toList ++ bodyL k ts
  | [], k, acc => by simp [textFrom, bodyL]
  | t :: r, k, acc => by
    show (textFrom (k + 1) (acc ++ (if k > 0 then ", " else "" : String) ++ t) r).cps.toList = _
    rw [from_list r (k + 1)]
    rw [show (acc ++ ((if k > 0 then ", " else "" : String) : Str) ++ t).cps = acc.cps ++ ((if k > 0 then ", " else "" : String) : Str).cps ++ t.cps from rfl, Array.toList_append, Array.toList_append]
    have e : (((if k > 0 then ", " else "" : String) : Str)).cps.toList = sepL k := by
      unfold sepL
      by_cases h : k > 0
      · rw [if_pos h, if_pos h]
        decide +kernel
      · rw [if_neg h, if_neg h]
        decide +kernel
    rw [e]
    simp [bodyL, List.append_assoc]
theorem split44 : ∀ {a a' r r' : List Nat}, a ++ 44 :: r = a' ++ 44 :: r' → 44 ∉ a → 44 ∉ a' → a = a' ∧ r = r'
  | [], [], r, r', h, _, _ => by simpa using h
  | [], x :: a', r, r', h, _, n => by
    simp only [List.nil_append, List.cons_append] at h
    injection h with h1 _
    exact absurd (h1 ▸ List.mem_cons_self) n
  | x :: a, [], r, r', h, n, _ => by
    simp only [List.nil_append, List.cons_append] at h
    injection h with h1 _
    exact absurd (h1 ▸ List.mem_cons_self) n
  | x :: a, y :: a', r, r', h, n, n' => by
    simp only [List.cons_append] at h
    injection h with h1 h2
    obtain ⟨e1, e2⟩ := split44 h2 (fun z => n (List.mem_cons_of_mem _ z)) (fun z => n' (List.mem_cons_of_mem _ z))
    exact ⟨by rw [h1, e1], e2⟩
/-- all but the last hold no comma -/
def NoC : List Str → Prop
  | [] => True
  | [_] => True
  | t :: r => 44 ∉ t.cps.toList ∧ NoC r
theorem str_of {x y : Str} (h : x.cps.toList = y.cps.toList) : x = y := Str.ext' (Array.toList_inj.mp h)
theorem body_inj : ∀ (ts us : List Str) (k : Nat), ts.length = us.length → NoC ts → NoC us → bodyL k ts = bodyL k us → ts = us
  | [], [], _, _, _, _, _ => rfl
  | [t], [u], k, _, _, _, h => by
    have h2 := List.append_cancel_left (by simpa [bodyL, List.append_assoc] using h : sepL k ++ t.cps.toList = sepL k ++ u.cps.toList)
    rw [str_of h2]
  | t :: t2 :: r, u :: u2 :: s, k, l, n, n', h => by
    have e : ∀ (t t2 : Str) (r : List Str), bodyL k (t :: t2 :: r) = sepL k ++ (t.cps.toList ++ 44 :: (32 :: (t2.cps.toList ++ bodyL (k + 2) r))) := by
      intro t t2 r
      show sepL k ++ t.cps.toList ++ (sepL (k + 1) ++ t2.cps.toList ++ bodyL (k + 1 + 1) r) = _
      rw [show sepL (k + 1) = [44, 32] from if_pos (Nat.succ_pos k)]
      simp [List.append_assoc]
    have f : ∀ (t2 : Str) (r : List Str), bodyL (k + 1) (t2 :: r) = 44 :: 32 :: (t2.cps.toList ++ bodyL (k + 2) r) := by
      intro t2 r
      show sepL (k + 1) ++ t2.cps.toList ++ bodyL (k + 1 + 1) r = _
      rw [show sepL (k + 1) = [44, 32] from if_pos (Nat.succ_pos k)]
      rfl
    rw [e, e] at h
    obtain ⟨e1, e2⟩ := split44 (List.append_cancel_left h) n.1 n'.1
    have e3 : bodyL (k + 1) (t2 :: r) = bodyL (k + 1) (u2 :: s) := by rw [f, f, e2]
    have := body_inj (t2 :: r) (u2 :: s) (k + 1) (by simpa using l) n.2 n'.2 e3
    rw [str_of e1, this]
/-- two lists with commas at the end alone are shown alike only if thing by thing -/
theorem list_inj {ds es : List PyData} (l : ds.length = es.length) (n : NoC (PyData.shownAll ds)) (n' : NoC (PyData.shownAll es)) (h : (PyData.list ds).shown = (PyData.list es).shown) : PyData.shownAll ds = PyData.shownAll es := by
  simp only [PyData.shown] at h
  have q : (listText (PyData.shownAll ds)).cps.toList = (listText (PyData.shownAll es)).cps.toList := by rw [h]
  unfold listText at q
  rw [show ∀ a b : Str, (a ++ b).cps = a.cps ++ b.cps from fun _ _ => rfl, show ∀ a b : Str, (a ++ b).cps = a.cps ++ b.cps from fun _ _ => rfl, Array.toList_append, Array.toList_append, from_list, from_list] at q
  have q2 := List.append_cancel_left (List.append_cancel_right q)
  refine body_inj _ _ 0 ?_ n n' q2
  rw [PyProof.Rows.shownAll_eq_map, PyProof.Rows.shownAll_eq_map, List.length_map, List.length_map, l]
end Wp
set_option Elab.async false
set_option linter.all false
set_option maxRecDepth 100000
set_option maxHeartbeats 4000000
namespace Wp
open PySem L2
/-- plain and with no thing in it -/
def El : PyData → Prop
  | .none => True
  | .bool _ => True
  | .int _ => True
  | .str x => Pln x
  | _ => False
theorem char_inj {a b : Char} (h : a.toNat = b.toNat) : a = b := Char.ext (UInt32.toNat_inj.mp h)
theorem map_inj : ∀ {a b : List Char}, a.map Char.toNat = b.map Char.toNat → a = b
  | [], [], _ => rfl
  | [], _ :: _, h => by cases h
  | _ :: _, [], h => by cases h
  | x :: a, y :: b, h => by
    simp only [List.map_cons] at h
    injection h with h1 h2
    rw [char_inj h1, map_inj h2]
theorem ofS_inj {a b : String} (h : Str.ofString a = Str.ofString b) : a = b := by
  rw [Str.ofString_eq_toList, Str.ofString_eq_toList] at h
  injection h with h
  have q : a.toList.map Char.toNat = b.toList.map Char.toNat := by
    have := congrArg Array.toList h
    simpa using this
  exact String.toList_inj.mp (map_inj q)
theorem int_inj {i j : Int} (h : (PyData.int i).shown = (PyData.int j).shown) : i = j := by
  simp only [PyData.shown] at h
  exact Int.repr_inj.mp (ofS_inj h)
theorem int_no {i : Int} {x : Str} {k : Nat} (hk : k ≠ 45 ∧ (k < 48 ∨ 57 < k)) (m : k ∈ x.cps.toList) : (PyData.int i).shown ≠ x := fun h => PyProof.Rows.shown_int_free' hk i (h ▸ m)
theorem txt_not {x : Str} (h : Pln x) {y : Str} (m : y.cps.toList.head? ≠ some 39) : (PyData.str x).shown ≠ y := fun e => m (e ▸ str_head h)
/-- what is shown alike is the same -/
theorem el_inj {d e : PyData} (hd : El d) (he : El e) (h : d.shown = e.shown) : d = e := by
  have i0 : ∀ i : Int, (PyData.int i).shown ≠ PyData.none.shown := fun i => int_no (k := 78) (by decide) (by decide +kernel)
  have i1 : ∀ (i : Int) (b : Bool), (PyData.int i).shown ≠ (PyData.bool b).shown := fun i b => by
    cases b
    · exact int_no (k := 70) (by decide) (by decide +kernel)
    · exact int_no (k := 84) (by decide) (by decide +kernel)
  have s0 : ∀ x, Pln x → (PyData.str x).shown ≠ PyData.none.shown := fun x p => txt_not p (by decide +kernel)
  have s1 : ∀ x b, Pln x → (PyData.str x).shown ≠ (PyData.bool b).shown := fun x b p => txt_not p (by cases b <;> decide +kernel)
  have s2 : ∀ x i, Pln x → (PyData.str x).shown ≠ (PyData.int i).shown := fun x i p => txt_not p (int_head i)
  have n1 : ∀ b, (PyData.bool b).shown ≠ PyData.none.shown := fun b => by cases b <;> decide +kernel
  cases d <;> cases e <;> first | exact hd.elim | exact he.elim | rfl | skip
  · exact absurd h.symm (n1 _)
  · exact absurd h.symm (i0 _)
  · exact absurd h.symm (s0 _ he)
  · exact absurd h (n1 _)
  · next a b =>
    have : a = b := by
      cases a <;> cases b <;> first | rfl | exact absurd h (by decide +kernel)
    rw [this]
  · exact absurd h.symm (i1 _ _)
  · exact absurd h.symm (s1 _ _ he)
  · exact absurd h (i0 _)
  · exact absurd h (i1 _ _)
  · rw [int_inj h]
  · exact absurd h.symm (s2 _ _ he)
  · exact absurd h (s0 _ hd)
  · exact absurd h (s1 _ _ hd)
  · exact absurd h (s2 _ _ hd)
  · simp only [PyData.shown] at h
    rw [repr_inj hd he h]
end Wp
set_option Elab.async false
set_option linter.all false
set_option maxRecDepth 100000
set_option maxHeartbeats 4000000
namespace Wp
open PySem L2
theorem plain_noC {x : Str} (h : Pln x) : 44 ∉ (reprText x).cps.toList := by
  have n : 44 ∉ plainL := by decide +kernel
  rw [repr_plain h]
  intro m
  rcases List.mem_cons.mp m with m | m
  · cases m
  · rcases List.mem_append.mp m with m | m
    · exact n (of_decide_eq_true (List.all_eq_true.mp h 44 m))
    · simp at m
/-- the tuple of at most two texts, sign by sign -/
def tupL : List Str → List Nat
  | [] => [40, 41]
  | [x] => 40 :: ((reprText x).cps.toList ++ 44 :: [41])
  | x :: y :: _ => 40 :: ((reprText x).cps.toList ++ 44 :: 32 :: ((reprText y).cps.toList ++ [41]))
theorem tup_list : ∀ w : List Str, w.length ≤ 2 → (PyData.shown (.tuple (w.map PyData.str))).cps.toList = tupL w
  | [], _ => by decide +kernel
  | [x], _ => by
    simp only [PyData.shown, PyData.shownAll, List.map_cons, List.map_nil]
    show ((("(" : Str).cps ++ (reprText x).cps) ++ ((",)" : String) : Str).cps).toList = _
    rw [Array.toList_append, Array.toList_append, show ("(" : Str).cps.toList = [40] by decide +kernel, show ((",)" : String) : Str).cps.toList = [44, 41] by decide +kernel]
    simp [tupL]
  | [x, y], _ => by
    simp only [PyData.shown, PyData.shownAll, List.map_cons, List.map_nil]
    show ((("(" : Str).cps ++ (((reprText x).cps ++ (", " : Str).cps) ++ (reprText y).cps)) ++ ((")" : String) : Str).cps).toList = _
    rw [Array.toList_append, Array.toList_append, Array.toList_append, Array.toList_append, show ("(" : Str).cps.toList = [40] by decide +kernel, show (", " : Str).cps.toList = [44, 32] by decide +kernel, show ((")" : String) : Str).cps.toList = [41] by decide +kernel]
    simp [tupL]
  | x :: y :: z :: r, h => by
    simp at h
theorem tup_inj {w u : List Str} (lw : w.length ≤ 2) (lu : u.length ≤ 2) (pw : ∀ x ∈ w, Pln x) (pu : ∀ x ∈ u, Pln x) (h : (PyData.tuple (w.map PyData.str)).shown = (PyData.tuple (u.map PyData.str)).shown) : w = u := by
  have q : tupL w = tupL u := by
    rw [← tup_list w lw, ← tup_list u lu, h]
  have hd : ∀ x : Str, Pln x → ∃ t, (reprText x).cps.toList = 39 :: t := fun x p => ⟨_, repr_plain p⟩
  match w, u, lw, lu, pw, pu, q with
  | [], [], _, _, _, _, _ => rfl
  | [], [x], _, _, _, pu, q =>
    obtain ⟨t, e⟩ := hd x (pu x (by simp))
    simp [tupL, e] at q
  | [], [x, y], _, _, _, pu, q =>
    obtain ⟨t, e⟩ := hd x (pu x (by simp))
    simp [tupL, e] at q
  | [x], [], _, _, pw, _, q =>
    obtain ⟨t, e⟩ := hd x (pw x (by simp))
    simp [tupL, e] at q
  | [x, y], [], _, _, pw, _, q =>
    obtain ⟨t, e⟩ := hd x (pw x (by simp))
    simp [tupL, e] at q
  | [x], [y], _, _, pw, pu, q =>
    simp only [tupL] at q
    injection q with _ q
    have px := pw x (by simp)
    have py := pu y (by simp)
    rw [repr_inj px py (str_of (split44 q (plain_noC px) (plain_noC py)).1)]
  | [x], [y, z], _, _, pw, pu, q =>
    simp only [tupL] at q
    injection q with _ q
    have := (split44 q (plain_noC (pw x (by simp))) (plain_noC (pu y (by simp)))).2
    injection this with a b
    cases a
  | [x, z], [y], _, _, pw, pu, q =>
    simp only [tupL] at q
    injection q with _ q
    have := (split44 q (plain_noC (pw x (by simp))) (plain_noC (pu y (by simp)))).2
    injection this with a b
    cases a
  | [x, z], [y, v], _, _, pw, pu, q =>
    simp only [tupL] at q
    injection q with _ q
    have s := split44 q (plain_noC (pw x (by simp))) (plain_noC (pu y (by simp)))
    have s2 := s.2
    injection s2 with _ s2
    have s3 := List.append_cancel_right s2
    rw [repr_inj (pw x (by simp)) (pu y (by simp)) (str_of s.1), repr_inj (pw z (by simp)) (pu v (by simp)) (str_of s3)]
  | _ :: _ :: _ :: _, _, lw, _, _, _, _ => simp at lw
  | _, _ :: _ :: _ :: _, _, lu, _, _, _ => simp at lu
end Wp
set_option Elab.async false
set_option linter.all false
set_option maxRecDepth 100000
set_option maxHeartbeats 4000000
/-! Iterators that come to their end while an exception is handled. -/
namespace Hw
open PySem PySem.Spec PyProof.Rows L2 HotX L2H
section
variable {prog : Program} {w : World} {A : Around} {E : Value → Shared → Prop} {s : Shared}
/-- StopIteration made and raised there, caught by pyNext -/
theorem stop_hot {B : Around} {it x1 : Addr} {h0 : Heap} {Q : Option Value → Shared → Prop} {F : Fin → Shared → Prop} (hot : HotAt B x1 s.heap) (h0e : ∀ b o, b ≠ it → h0.get? b = some o → s.heap.get? b = some o)
    (hQ : ∀ h', (∀ b o, b ≠ it → h0.get? b = some o → h'.get? b = some o) → Q none { s with heap := h' }) :
    wpAny (model prog w) B Builtin.SmallTypes.stopIteration F (fun e s' => wpAny (model prog w) A (do let y ← isInstance e (.type "StopIteration"); if y = true then pure none else throw e) Q E s') s := by
  obtain ⟨hh, o1, vs1, h1, d1, c1⟩ := hot
  unfold Builtin.SmallTypes.stopIteration
  try refine wpAny_bind ?_
  show wpAny _ _ (newExc (.type "StopIteration") [] >>= _) _ _ _
  refine wpAny_bind ?_
  simp only [newExc, newTuple]
  refine wpAny_bind (wpAny_newObj_type ?_ (by size_fits))
  refine wpAny_bind (m := firstArgMember _ _) (wpAny_of_eq (a := Value.none) (by first | rfl | (simp only [firstArgMember]; rfl)) ?_)
  refine wpAny_newObj_type ?_ (by size_fits)
  refine wpAny_pure ?_
  refine raiseNew_hot ⟨hh, o1, vs1, Heap.get?_push_of_some _ (Heap.get?_push_of_some _ h1), d1, c1⟩ (Nat.ne_of_lt (Heap.lt_size (Heap.get?_push_of_some _ h1))) (Heap.get?_push_size _ rfl) rfl (by first | (simp; done) | (simp; omega) | (simp only [Array.size_append]; simp; omega)) ?_
  refine wpAny_bind (wpAny_isInstance (T := "StopIteration") (b := true) ⟨_, Heap.get?_update_self _ (Heap.get?_push_size _ rfl) rfl, rfl⟩ isSubtype_stop ?_)
  refine wpAny_pure (hQ _ fun b o nb e => ?_)
  have e2 := h0e b o nb e
  rw [Heap.get?_update_other _ _ (Nat.ne_of_gt (Heap.lt_size (Heap.get?_push_of_some _ e2)))]
  exact Heap.get?_push_of_some _ (Heap.get?_push_of_some _ e2)
theorem list_end_hot {it l x1 : Addr} {i : Nat} {items} {Q : Option Value → Shared → Prop} (hot : HotAt A x1 s.heap) (ne : it ≠ x1) (hit : s.heap.IsListIter it l i) (hl : s.heap.IsList l items) (hx : items[i]? = none)
    (hQ : ∀ h', (∀ b o, b ≠ it → s.heap.get? b = some o → h'.get? b = some o) → Q none { s with heap := h' }) : wpAny (model prog w) A (pyNext (.ref it)) Q E s := by
  obtain ⟨o, ho, hc, hd⟩ := id hit
  obtain ⟨ol, hol, _, nl, hdl⟩ := hl
  unfold pyNext
  refine wpAny_bind (wpAny_attempt (wpAny_callSpecial?_slot (name := Str.ofString "__next__") hit.typeIs slot_listiter_next (wpAny_call_entry slot_listiter_next hit.typeIs entry_listiter_next ?_ (args_listiter_next _))))
  show wpAny _ _ (field (.ref it) 0 >>= _) _ _ s
  refine wpAny_bind (wpAny_field ho hd (x := .ref l) rfl ?_)
  show wpAny _ _ (if (Value.ref l == Value.none) = true then _ else _) _ _ s
  rw [if_neg (show ¬ ((Value.ref l == Value.none) = true) from Bool.false_ne_true)]
  show wpAny _ _ (field (.ref it) 1 >>= _) _ _ s
  refine wpAny_bind (wpAny_field ho hd (x := .int i 0) rfl ?_)
  show wpAny _ _ (seqItems? (.ref l) >>= _) _ _ s
  refine wpAny_bind (wpAny_seqItems hol hdl ?_)
  simp only [Int.toNat_natCast, hx]
  refine wpAny_bind (wpAny_rule (wpAny_bind (wpAny_setField ho hd (by simp) ?_)))
  obtain ⟨hh, o1, vs1, h1, d1, c1⟩ := hot
  have up : ∀ b u, b ≠ it → s.heap.get? b = some u → (s.heap.update it (Obj.mapFields (·.setIfInBounds 0 .none))).get? b = some u := fun b u nb e => (Heap.get?_update_other _ _ (Ne.symm nb)).trans e
  exact stop_hot (it := it) (h0 := s.heap) ⟨hh, o1, vs1, up _ _ (Ne.symm ne) h1, d1, c1⟩ up hQ
theorem tuple_end_hot {it t x1 : Addr} {i : Nat} {items} {Q : Option Value → Shared → Prop} (hot : HotAt A x1 s.heap) (ne : it ≠ x1) (hit : s.heap.IsTupleIter it t i) (ht : s.heap.IsTuple t items) (hx : items[i]? = none)
    (hQ : ∀ h', (∀ b o, b ≠ it → s.heap.get? b = some o → h'.get? b = some o) → Q none { s with heap := h' }) : wpAny (model prog w) A (pyNext (.ref it)) Q E s := by
  obtain ⟨o, ho, hc, hd⟩ := id hit
  obtain ⟨ol, hol, _, nl, hdl⟩ := ht
  unfold pyNext
  refine wpAny_bind (wpAny_attempt (wpAny_callSpecial?_slot (name := Str.ofString "__next__") hit.typeIs F.slot_tuple_iterator_next (wpAny_call_entry F.slot_tuple_iterator_next hit.typeIs F.entry_tuple_iterator_next ?_ (F.args_tuple_iterator_next_1 _))))
  show wpAny _ _ (field (.ref it) 0 >>= _) _ _ s
  refine wpAny_bind (wpAny_field ho hd (x := .ref t) rfl ?_)
  show wpAny _ _ (if (Value.ref t == Value.none) = true then _ else _) _ _ s
  rw [if_neg (show ¬ ((Value.ref t == Value.none) = true) from Bool.false_ne_true)]
  show wpAny _ _ (field (.ref it) 1 >>= _) _ _ s
  refine wpAny_bind (wpAny_field ho hd (x := .int i 0) rfl ?_)
  show wpAny _ _ (seqItems? (.ref t) >>= _) _ _ s
  refine wpAny_bind (wpAny_seqItems hol hdl ?_)
  simp only [Int.toNat_natCast, hx]
  refine wpAny_bind (wpAny_rule (wpAny_bind (wpAny_setField ho hd (by simp) ?_)))
  obtain ⟨hh, o1, vs1, h1, d1, c1⟩ := hot
  have up : ∀ b u, b ≠ it → s.heap.get? b = some u → (s.heap.update it (Obj.mapFields (·.setIfInBounds 0 .none))).get? b = some u := fun b u nb e => (Heap.get?_update_other _ _ (Ne.symm nb)).trans e
  exact stop_hot (it := it) (h0 := s.heap) ⟨hh, o1, vs1, up _ _ (Ne.symm ne) h1, d1, c1⟩ up hQ
end
/-! ## the turns -/
theorem hot_at {X : Cx} {pins : List (Addr × Obj)} {σ : L2.St} {H : Hp} {s : Shared} {it : Addr} (c : HotC X) (I : Inv X pins σ H s) (f : FpOk X pins H it) : ∃ x1, HotAt X.A x1 s.heap ∧ it ≠ x1 := by
  obtain ⟨p, ⟨hh, v1, e1, c1⟩, hp⟩ := c
  exact ⟨p.1, ⟨hh, p.2, v1, (I.pin p (List.mem_append_left _ hp)).1, e1, c1⟩, Ne.symm (f.2.2.2.2.2 p (List.mem_append_left _ hp))⟩
theorem turn_listH {P : Program} {w : World} {K : PySem.W.Frag} {tg : Expr} (a it : Addr) : TurnH P w K tg (Itl K a) [it] it (fun i h => h.IsListIter it a i) where
  mem := (turn_list (P := P) (w := w) (K := K) (tg := tg) a it).mem
  obj := (turn_list (P := P) (w := w) (K := K) (tg := tg) a it).obj
  keep := (turn_list (P := P) (w := w) (K := K) (tg := tg) a it).keep
  item := by
    intro X hP hw hK hc i pins s σ H E I hf st hg
    subst hP hw hK
    obtain ⟨xs, x, hq, hx⟩ := hg
    obtain ⟨its, rv, p, hz⟩ := I.list hq
    obtain ⟨u, hu, ru⟩ := rv.get hx
    obtain ⟨f0, f1, f2, f3, f4, f5⟩ := hf it (by simp)
    refine wpAny_pyNext_list_item st p.isList (x := u) (by simpa using hu) fun h' st' sb => ?_
    have I1 : Inv X pins σ H { s with heap := h' } := I.turned (t' := s.toks) (fun b o hb e => (sb.2 b hb).trans e) f0 f1 f3 f4 f5
    obtain ⟨o, e, c, d⟩ := id st'
    exact ⟨u, rfl, go_of (s := { s with heap := h' }) e c d (by decide) ⟨x, H, I1, ru, ⟨rfl, fun ys hy => by rw [I.list_inj hy hq]; exact hx⟩, st', fun b hb => (hf b hb).1⟩⟩
  done := by
    intro X hP hw hK hc i pins s σ H E I hf st hg
    subst hP hw hK
    obtain ⟨xs, hq, hx⟩ := hg
    obtain ⟨its, rv, p, hz⟩ := I.list hq
    have hit := hf it (by simp)
    obtain ⟨f0, f1, f2, f3, f4, f5⟩ := id hit
    obtain ⟨x1, hot, ne⟩ := hot_at hc I hit
    have hl := rv.length
    exact list_end_hot hot ne st p.isList (by simp; omega) fun h' eb => ⟨rfl, I.turned (t' := s.toks) (fun b o hb e => eb b o hb e) f0 f1 f3 f4 f5⟩
  self := (turn_list (P := P) (w := w) (K := K) (tg := tg) a it).self
theorem turn_tupleH {P : Program} {w : World} {K : PySem.W.Frag} {tg : Expr} (a it : Addr) : TurnH P w K tg (Itt K a) [it] it (fun i h => h.IsTupleIter it a i) where
  mem := (turn_tuple (P := P) (w := w) (K := K) (tg := tg) a it).mem
  obj := (turn_tuple (P := P) (w := w) (K := K) (tg := tg) a it).obj
  keep := (turn_tuple (P := P) (w := w) (K := K) (tg := tg) a it).keep
  item := by
    intro X hP hw hK hc i pins s σ H E I hf st hg
    subst hP hw hK
    obtain ⟨xs, x, hq, hx⟩ := hg
    obtain ⟨its, rv, p, hz⟩ := I.tuple hq
    obtain ⟨u, hu, ru⟩ := rv.get hx
    obtain ⟨f0, f1, f2, f3, f4, f5⟩ := hf it (by simp)
    refine wpAny_pyNext_tuple_item st (show s.heap.IsTuple a its.toArray from p) (x := u) (by simpa using hu) fun h' st' sb => ?_
    have I1 : Inv X pins σ H { s with heap := h' } := I.turned (t' := s.toks) (fun b o hb e => (sb.2 b hb).trans e) f0 f1 f3 f4 f5
    obtain ⟨o, e, c, d⟩ := id st'
    exact ⟨u, rfl, go_of (s := { s with heap := h' }) e c d (by decide) ⟨x, H, I1, ru, ⟨rfl, fun ys hy => by rw [I.tuple_inj hy hq]; exact hx⟩, st', fun b hb => (hf b hb).1⟩⟩
  done := by
    intro X hP hw hK hc i pins s σ H E I hf st hg
    subst hP hw hK
    obtain ⟨xs, hq, hx⟩ := hg
    obtain ⟨its, rv, p, hz⟩ := I.tuple hq
    have hit := hf it (by simp)
    obtain ⟨f0, f1, f2, f3, f4, f5⟩ := id hit
    obtain ⟨x1, hot, ne⟩ := hot_at hc I hit
    have hl := rv.length
    exact tuple_end_hot hot ne st (show s.heap.IsTuple a its.toArray from p) (by simp; omega) fun h' eb => ⟨rfl, I.turned (t' := s.toks) (fun b o hb e => eb b o hb e) f0 f1 f3 f4 f5⟩
  self := (turn_tuple (P := P) (w := w) (K := K) (tg := tg) a it).self
end Hw
set_option Elab.async false
set_option linter.all false
set_option maxRecDepth 100000
set_option maxHeartbeats 4000000
/-! A list comprehension while an exception is handled. -/
namespace Hw
open PySem PySem.Spec PyProof.Rows L2 HotX L2H
/-- the block's context, which bears the handled exception too -/
abbrev blkH (X : Cx) (s : Shared) (H : Hp) (scope : Scope) (cenv : Env) (fp : List Addr) : Cx := { X.blk s H scope cenv fp with pn := X.pn }
section
variable {X : Cx} {pins : List (Addr × Obj)} {σ : L2.St} {H : Hp} {s : Shared}
theorem hot_ok {Y : Cx} (pn : List (Addr × Obj)) (o : Y.Ok) : Cx.Ok { Y with pn := pn } :=
  ⟨o.mod, o.kind, o.glob, o.blt, o.above, o.inj, o.has, o.cab, o.hd, o.frames, o.stk, o.exf, o.bs, o.bsz, o.noex, o.exfs, o.funs, o.frf⟩
theorem hot_inv {Y : Cx} {pn : List (Addr × Obj)} (J : Inv Y [] σ H s) (hp : ∀ p ∈ pn, s.heap.get? p.1 = some p.2 ∧ H p.1 = none ∧ p.1 ≠ Y.env.locals ∧ p.1 ∉ Y.fs ∧ ∀ v, p.2.data ≠ .cell v) : Inv { Y with pn := pn } [] σ H s :=
  ⟨hot_ok pn J.ok, J.os, J.bare, J.base, J.loc, J.cell, J.free, J.freeC, fun p h => hp p (by simpa using h), J.hok, J.len⟩
theorem in_stack (I : Inv X pins σ H s) {a : Addr} (n1 : a ≠ X.env.locals) (n2 : a ∉ X.fs) : a ∉ frs X.stack := by
  rcases I.ok.stk with e | ⟨e, f⟩
  · rw [e]
    exact n2
  · rw [e]
    intro h
    unfold frs at h
    rw [List.filterMap_cons, f] at h
    rcases List.mem_cons.mp h with z | z
    · exact n1 z
    · exact n2 z
theorem block_startH {scope : Scope} {own : List (Str × Nat)} {fp : List Addr} (I : Inv X pins σ H s) (ok : BlkOk X.N X.env.scope scope own) (hN : X.N.Nodup) (hfp : ∀ b ∈ fp, FpOk X pins H b ∧ b < s.heap.objs.size) :
    Inv (blkH X s H scope (compEnvC scope (cellsFrom (s.heap.objs.size + 1) scope.names (cloFrom X.env.cells scope.names [])) s.heap.objs.size X.env) fp) [] (wipe σ (own.map (·.2))) H { s with heap := pushCells (s.heap.push { cls := .type "dict", data := .dict #[] }) scope.names } := by
  refine hot_inv (block_start I ok hN hfp) fun p hp => ?_
  obtain ⟨g, h0, n1, n2, nc⟩ := I.pin p (List.mem_append_left _ hp)
  exact ⟨pushCells_keeps _ _ _ _ (Heap.get?_push_of_some _ g), h0, Nat.ne_of_lt (Heap.lt_size g), in_stack I n1 n2, nc⟩
theorem lc_hot {Q : VK} {elt tg iter : Expr} {ifs : List Expr} {scope : Scope} {own : List (Str × Nat)} {pos pos' : Pos} {wi : TI} {g : TG} {tt : TT} {te : TE} {use : Option (Value → Sem Unit)} {Qf : Value → Shared → Prop}
    (hc : HotC X) (hN : X.N.Nodup) (I : Inv X pins σ H s) (hi : PIH X tg iter wi) (ok : BlkOk X.N X.env.scope scope own)
    (hg : ∀ (s : Shared) (H : Hp) (C : Addr) (cl : List (Str × Addr)) (fp : List Addr), PG (blkH X s H scope (compEnvC scope cl C X.env) fp) tg g) (ht : ∀ (s : Shared) (H : Hp) (C : Addr) (cl : List (Str × Addr)) (fp : List Addr), PTs (blkH X s H scope (compEnvC scope cl C X.env) fp) ifs tt)
    (he : ∀ (s : Shared) (H : Hp) (C : Addr) (cl : List (Str × Addr)) (fp : List Addr), PE (blkH X s H scope (compEnvC scope cl C X.env) fp) elt te) (hs : ∀ x, foldedSetIterable iter X.env x = pure x)
    (h : tLc wi g tt te (own.map (·.2)) σ H Q)
    (hRR : ∀ D C s' m H', Inv X pins σ H' s' → Q (.ref D) H' → s'.heap.Ns C m → FpOk X pins H' C → compPost (model X.prog X.w) X.A X.xe use Qf (.ref D) C (.ok .next) s') :
    wpAny (model X.prog X.w) X.A (comprehension (.ListComp elt [⟨tg, iter, ifs, 0⟩] scope pos) scope X.env pos' (newList []) false (eval iter X.env) use) Qf X.xe s := by
  have frees : ∀ y ∈ scope.names, y.2 = .free → ∃ c, X.env.cells.lookup y.1 = some c := fun y hy e => (ok.free y hy e).elim (fun k => I.ok.has _ (.inl k)) fun k => I.ok.has _ (.inr k)
  refine wpAny_comprehension_free (use := use) rfl hs (closure_ok frees) ok.kind (fun y hy e => by rw [ok.uniq y hy, e]) (thn (hi.run pins s σ H _ I h) fun xv sa ha => thn ha fun itv sb hb => ?_)
  obtain ⟨it, fp, tn, J, Hb, e, Ib, T, stb, fb, q⟩ := hb
  subst e
  refine wpAny_newObj_type (newEnv_comp ?_) (by show 0 ≤ sizeLine; decide)
  generalize hD : sb.heap.objs.size = D
  obtain ⟨W, ⟨m0, w0⟩, turn⟩ := q D (Ib.hok.fresh (Nat.le_of_eq hD))
  have small : ∀ b ∈ fp, b < sb.heap.objs.size := fun b hb => let ⟨_, e, _⟩ := T.obj _ _ stb b hb; Heap.lt_size e
  generalize hsc : ({ sb with heap := sb.heap.push { cls := .type "list", data := .seq ([] : List Value).toArray } } : Shared) = sc
  have hpc : sc.heap = sb.heap.push { cls := .type "list", data := .seq ([] : List Value).toArray } := by rw [← hsc]
  have Ic : Inv X pins σ (upd Hb D (.lst [])) sc := by
    rw [← hsc]
    refine Ib.laid (t' := sb.toks) (fun b o e => Heap.get?_push_of_some _ e) (Nat.le_of_eq hD) ⟨Nat.zero_le _, [], 0, .nil, ?_⟩
    rw [← hD]
    exact Heap.get?_push_size _ rfl
  have fc : ∀ b ∈ fp, FpOk X pins (upd Hb D (.lst [])) b ∧ b < sc.heap.objs.size := fun b hb =>
    ⟨⟨by rw [upd_ne (by rw [← hD]; exact Nat.ne_of_lt (small b hb))]; exact (fb b hb).1, (fb b hb).2⟩, by rw [hpc, Heap.size_push]; exact Nat.lt_succ_of_lt (small b hb)⟩
  have stc : tn 0 sc.heap := T.keep _ _ _ stb fun b _ o e => by rw [hpc]; exact Heap.get?_push_of_some _ e
  have Id := block_startH Ic ok hN fc
  have pg := hg sc (upd Hb D (.lst [])) sc.heap.objs.size (cellsFrom (sc.heap.objs.size + 1) scope.names (cloFrom X.env.cells scope.names [])) fp
  have pt := ht sc (upd Hb D (.lst [])) sc.heap.objs.size (cellsFrom (sc.heap.objs.size + 1) scope.names (cloFrom X.env.cells scope.names [])) fp
  have pe := he sc (upd Hb D (.lst [])) sc.heap.objs.size (cellsFrom (sc.heap.objs.size + 1) scope.names (cloFrom X.env.cells scope.names [])) fp
  show codeAny _ _ (.compStart (.ListComp elt [⟨tg, iter, ifs, 0⟩] scope pos) 0 (.ref it) (.ref D) (compEnvC scope (cellsFrom (sc.heap.objs.size + 1) scope.names (cloFrom X.env.cells scope.names [])) sc.heap.objs.size X.env)) (compPost (model X.prog X.w) X.A X.xe use Qf (.ref D) sc.heap.objs.size) { sc with heap := pushCells (sc.heap.push { cls := .type "dict", data := .dict #[] }) scope.names }
  have nf : ∀ b ∈ fp, (upd Hb D (.lst [])) b = none := fun b hb => (fc b hb).1.1
  have pinF : ∀ b ∈ fp, ∀ p ∈ X.pn, p.1 ≠ b := fun b hb p hp => (fc b hb).1.2.2.2.2.2 p (List.mem_append_left _ hp)
  generalize hce : compEnvC scope (cellsFrom (sc.heap.objs.size + 1) scope.names (cloFrom X.env.cells scope.names [])) sc.heap.objs.size X.env = ce at Id pg pt pe ⊢
  have cL : ce.locals = sc.heap.objs.size := by subst hce; rfl
  generalize hHc : upd Hb D (.lst []) = Hc at Ic Id pg pt pe w0 nf fc
  generalize hsd : ({ sc with heap := pushCells (sc.heap.push { cls := .type "dict", data := .dict #[] }) scope.names } : Shared) = sd at Id ⊢
  have std : tn 0 sd.heap := T.keep _ _ _ stc fun b _ o e => by rw [← hsd]; exact pushCells_keeps _ _ _ _ (Heap.get?_push_of_some _ e)
  have stat : ∀ {σ' : L2.St} {H' : Hp} {s' : Shared}, Inv (blkH X sc Hc scope ce fp) [] σ' H' s' → (∀ b ∈ fp, H' b = none) → ∀ b ∈ fp, FpOk (blkH X sc Hc scope ce fp) [] H' b := fun {σ' H' s'} I' hn b hb =>
    ⟨hn b hb, (I'.ok.exf b hb).1, I'.ok.exfs b hb, .inl hb, fun x c e => (I'.ok.exf b hb).2 x c e, fun p hp => pinF b hb p (by simpa using hp)⟩
  have hcB : HotC (blkH X sc Hc scope ce fp) := hc
  have loop : codeAny (model X.prog X.w) X.A (.compLoop (.ListComp elt [⟨tg, iter, ifs, 0⟩] scope pos) 0 (.ref it) (.ref D) ce) (compPost (model X.prog X.w) X.A X.xe use Qf (.ref D) sc.heap.objs.size) sd := by
    refine compLoop_any (fun n s' => ∃ i H', Inv (blkH X sc Hc scope ce fp) [] (wipe σ (own.map (·.2))) H' s' ∧ tn i s'.heap ∧ (∀ b ∈ fp, H' b = none) ∧ W i n H') ?_ m0 ⟨0, Hc, Id, std, nf, w0⟩
    rintro n se ⟨i, He, Ie, ste, ne, we⟩
    rcases turn i n He we with ⟨stop, qq⟩ | ⟨go, Nx, hNx, step⟩
    · refine thnF (T.done (blkH X sc Hc scope ce fp) rfl rfl rfl hcB i [] se _ He (fun _ _ => False) Ie (stat Ie ne) ste stop) fun r sf ⟨hr, If⟩ => ?_
      subst hr
      have Ig : Inv X pins σ He sf := Ic.call' (ch := fp) If.os If.base If.hok If.bare fun b hb => ⟨(fc b hb).1.2.2.2.1, (fc b hb).1.2.1, (fc b hb).1.2.2.2.2.1, (fc b hb).1.2.2.2.2.2⟩
      have nC : He sc.heap.objs.size = none := cL ▸ (show He ce.locals = none from If.free)
      obtain ⟨m, hn, _⟩ := If.loc
      have hn : sf.heap.Ns ce.locals m := hn
      rw [cL] at hn
      exact hRR D sc.heap.objs.size sf m He Ig qq hn (Ic.fpOk (Nat.le_refl _) nC)
    · refine thnF (T.item (blkH X sc Hc scope ce fp) rfl rfl rfl hcB i [] se _ He (fun _ _ => False) Ie (stat Ie ne) ste go) fun r sf ⟨u, hr, hf⟩ => ?_
      subst hr
      refine thnF hf fun _ sg ⟨x, Hg, Ig, rg, yg, stg, ng⟩ => ?_
      have Ig' := Ig.pinned (stat Ig ng) (T.obj _ _ stg)
      refine thnF (pg.run _ sg _ Hg x u _ Ig' rg (step x Hg yg)) fun _ sh ⟨σh, Hh, Ih, hwh, qh⟩ => ?_
      refine thnF (pt.run _ sh σh Hh _ Ih qh) fun b si ⟨Hi, Ii, qi⟩ => ?_
      have fin : ∀ {s' : Shared} {H' : Hp}, Inv (blkH X sc Hc scope ce fp) ([] ++ pinsAt fp sg.heap) σh H' s' → Nx H' → ∃ m, m < n ∧ ∃ i H', Inv (blkH X sc Hc scope ce fp) [] (wipe σ (own.map (·.2))) H' s' ∧ tn i s'.heap ∧ (∀ b ∈ fp, H' b = none) ∧ W i m H' := fun {s' H'} I' nx => by
        obtain ⟨m', hm, w'⟩ := hNx H' nx
        have pin' : ∀ b ∈ fp, ∀ o, sg.heap.get? b = some o → s'.heap.get? b = some o ∧ H' b = none := fun b hb o e =>
          let z := I'.pin (b, o) (List.mem_append_right _ (List.mem_append_right _ (mem_pinsAt hb e)))
          ⟨z.1, z.2.1⟩
        have hl : (wipe σ (own.map (·.2))).length = σh.length := by rw [← hwh, wipe_length]
        refine ⟨m', hm, i + 1, H', (I'.unpinned (pins := [])).weak hl (fun j v e => ?_), T.keep _ _ _ stg fun b hb o e => (pin' b hb o e).1, fun b hb => ?_, w'⟩
        · rw [← hwh] at e
          exact (wipe_some e).1
        · obtain ⟨o, e, _⟩ := T.obj _ _ stg b hb
          exact (pin' b hb o e).2
      cases b with
      | false =>
        simp only [Bool.false_eq_true, if_false] at qi ⊢
        exact fin Ii qi
      | true =>
        simp only [if_true] at qi ⊢
        refine thnF (pe.run _ si σh Hi _ Ii qi) fun z sj ⟨yv, Hj, Ij, rj, acc, hDj, hzj, nx⟩ => ?_
        exact app_ok (X := blkH X sc Hc scope ce fp) Ij hDj hzj rj fun sk Ik => fin Ik nx
  exact codeAny_compStart_list loop (T.self X.A 0 _ _ _ std loop)
end
end Hw
set_option Elab.async false
set_option linter.all false
set_option maxRecDepth 100000
set_option maxHeartbeats 4000000
/-! While an exception is handled: comprehensions over lists, tuples, texts; a list unpacked. -/
namespace Hw
open PySem PySem.Spec PyProof.Rows L2 HotX L2H
section
variable {X : Cx} {tg : Expr}
/-- [..] as a value -/
theorem pe_lcH {elt tg iter : Expr} {ifs : List Expr} {scope : Scope} {own : List (Str × Nat)} {pos : Pos} {wi : TI} {g : TG} {tt : TT} {te : TE} (hc : HotC X) (hN : X.N.Nodup) (hi : PIH X tg iter wi) (ok : BlkOk X.N X.env.scope scope own)
    (hg : ∀ (s : Shared) (H : Hp) (C : Addr) (cl : List (Str × Addr)) (fp : List Addr), PG (blkH X s H scope (compEnvC scope cl C X.env) fp) tg g) (ht : ∀ (s : Shared) (H : Hp) (C : Addr) (cl : List (Str × Addr)) (fp : List Addr), PTs (blkH X s H scope (compEnvC scope cl C X.env) fp) ifs tt)
    (he : ∀ (s : Shared) (H : Hp) (C : Addr) (cl : List (Str × Addr)) (fp : List Addr), PE (blkH X s H scope (compEnvC scope cl C X.env) fp) elt te) (hs : ∀ x, foldedSetIterable iter X.env x = pure x := by intro _; rfl) :
    PE X (.ListComp elt [⟨tg, iter, ifs, 0⟩] scope pos) (tLc wi g tt te (own.map (·.2))) := by
  constructor
  intro pins s σ H Q I h
  rw [eval_ListComp]
  refine lc_hot hc hN I hi ok hg ht he hs h fun D C s' m H' I' q hn f => ⟨m, hn, fun h'' sb => ?_⟩
  obtain ⟨f0, f1, f2, f3, f4, f5⟩ := f
  exact ⟨.ref D, H', I'.turned (t' := s'.toks) (fun b o hb e => (sb.2 b hb).trans e) f0 f1 f3 f4 f5, rfl, q⟩
/-- a new iterator with one object -/
theorem one_hot {pins : List (Addr × Obj)} {σ : L2.St} {H : Hp} {s : Shared} {R : It → Hp → Prop} {J : It} {tn : Nat → Heap → Prop} (o : Obj) (I : Inv X pins σ H s) (T : TurnH X.prog X.w X.K tg J [s.heap.objs.size] s.heap.objs.size tn)
    (st : tn 0 (s.heap.push o)) (q : R J H) : PIEH X pins σ tg R (.ref s.heap.objs.size) { s with heap := s.heap.push o } := by
  refine ⟨s.heap.objs.size, [s.heap.objs.size], tn, J, H, rfl, I.kept (t' := s.toks) fun b o e => Heap.get?_push_of_some _ e, T, st, fun b hb => ?_, q⟩
  obtain rfl : b = s.heap.objs.size := by simpa using hb
  exact I.fpOk (Nat.le_refl _) (I.hok.fresh (Nat.le_refl _))
theorem pi_listH {l : Expr} {tl : TE} (hl : PE X l tl) : PIH X tg l (iList X.K tl) := by
  constructor
  intro pins s σ H R I h
  refine thn (hl.run pins s σ H _ I h) fun v s1 ⟨x, H1, I1, r1, q1⟩ => ?_
  obtain ⟨a, rfl, ⟨xs, hq⟩, q⟩ := q1
  cases r1
  obtain ⟨its, rv, p, hz⟩ := I1.list hq
  exact wpAny_pyIter_list p.isList (one_hot _ I1 (turn_listH a _) ⟨_, Heap.get?_push_size _ rfl, rfl, rfl⟩ q)
theorem pi_tupH {l : Expr} {tl : TE} (hl : PE X l tl) : PIH X tg l (iTup X.K tl) := by
  constructor
  intro pins s σ H R I h
  refine thn (hl.run pins s σ H _ I h) fun v s1 ⟨x, H1, I1, r1, q1⟩ => ?_
  obtain ⟨a, rfl, ⟨xs, hq⟩, q⟩ := q1
  cases r1
  obtain ⟨its, rv, p, hz⟩ := I1.tuple hq
  exact wpAny_pyIter_tuple (show s1.heap.IsTuple a its.toArray from p) (one_hot _ I1 (turn_tupleH a _) ⟨_, Heap.get?_push_size _ rfl, rfl, rfl⟩ q)
theorem pih_or {l : Expr} {a b : TI} (h : PIH X tg l a) (h' : PIH X tg l b) : PIH X tg l (fun σ H R => a σ H R ∨ b σ H R) :=
  ⟨fun pins s σ H R I q => q.elim (h.run pins s σ H R I) (h'.run pins s σ H R I)⟩
end
section
variable {prog : Program} {w : World} {A : Around} {E : Value → Shared → Prop} {s : Shared}
/-- the things of a list, drawn for so many targets -/
theorem items_hot {l x1 : Addr} {items : Array Value} {Q : List Value → Shared → Prop} (hot : HotAt A x1 s.heap) (hl : s.heap.IsList l items)
    (hQ : ∀ h', (∀ b o, b ≠ s.heap.objs.size → s.heap.get? b = some o → h'.get? b = some o) → Q items.toList { s with heap := h' }) : wpAny (model prog w) A (unpackItems (.ref l) items.size none) Q E s := by
  have hlt : l ≠ s.heap.objs.size := let ⟨o, ho, _⟩ := hl; Nat.ne_of_lt (Heap.lt_size ho)
  obtain ⟨hh, o1, vs1, h1, d1, c1⟩ := hot
  have hne : s.heap.objs.size ≠ x1 := Nat.ne_of_gt (Heap.lt_size h1)
  unfold unpackItems
  refine wpAny_bind ?_
  unfold notIterableAtAll
  refine wpAny_bind (wpAny_specialOf hl.typeIs slot_list_iter.lookup (wpAny_pure ?_))
  simp only [Bool.false_eq_true, if_false]
  refine wpAny_bind (wpAny_holding (wpAny_pyIter_list hl ?_))
  refine wpAny_bind (wpAny_holding (PySem.W.kun_draw hlt items.size 0 _ _ ⟨_, Heap.get?_push_size _ rfl, rfl, rfl⟩ (hl.push _) (by omega) fun h₁ hit₁ hs₁ => ?_))
  rw [show List.take items.size (List.drop 0 items.toList) = items.toList by rw [List.drop_zero]; exact List.take_of_length_le (by simp)]
  rw [if_neg (by simp)]
  have hl₁ : h₁.IsList l items := (hl.push _).extBut hs₁.extBut hlt
  have up : ∀ b o, b ≠ s.heap.objs.size → s.heap.get? b = some o → h₁.get? b = some o := fun b o hb e => hs₁.extBut b o hb (Heap.get?_push_of_some _ e)
  refine wpAny_bind (wpAny_holding (list_end_hot (x1 := x1) ⟨hh, o1, vs1, up _ _ (Ne.symm hne) h1, d1, c1⟩ hne hit₁ hl₁ (by simp) fun h₂ he₂ => ?_))
  simp only [Option.isSome_none, Bool.false_eq_true, if_false]
  exact wpAny_pure (hQ h₂ fun b o hb e => he₂ b o hb (up b o hb e))
end
section
variable {X : Cx} {pos : Pos}
/-- a, b, .. = a list of that length -/
theorem pg_lstH {es : List Expr} {k : Nat} {t : TGs} {n : Nat} (hc : HotC X) (h : PGs X es t)
    (hn : (assignEach es X.env).length = n := by rfl) (hst : (assignEach es X.env).findIdx? (·.1) = none := by rfl) : PG X (.Tuple es k pos) (gLst X.K n t) := by
  constructor
  rintro pins s σ H v u Q I r ⟨a, xs, rfl, hq, hl, hw⟩
  cases r
  obtain ⟨its, rv, pl, hz⟩ := I.list hq
  obtain ⟨x1, hot⟩ := hc.at I
  rw [PyProof.Rows.assign_Tuple]
  refine wpAny_bind (wpAny_standAt ?_)
  unfold unpack
  rw [show (assignEach es X.env).length = its.toArray.size by simp [hn, ← hl, rv.length], hst]
  refine wpAny_bind (wpAny_holding (items_hot hot pl.isList fun h' hx => ?_))
  exact h.run pins _ σ H xs _ Q (I.kept (t' := s.toks) fun b o e => hx b o (Nat.ne_of_lt (Heap.lt_size e)) e) (by simpa using rv) hw
end
end Hw
set_option Elab.async false
set_option linter.all false
set_option maxRecDepth 100000
set_option maxHeartbeats 4000000
/-! A text walked while an exception is handled. -/
namespace Hw
open PySem PySem.Spec PyProof.Rows L2 HotX L2H
section
variable {prog : Program} {w : World} {A : Around} {E : Value → Shared → Prop} {s : Shared}
theorem ascii_end_hot {it x1 : Addr} {x : Str} {t : Tok} {i : Nat} {Q : Option Value → Shared → Prop} (hot : HotAt A x1 s.heap) (ne : it ≠ x1) (hit : s.heap.IsStrIter it "str_ascii_iterator" x t i) (hx : x.cps[i]? = none)
    (hQ : ∀ h', (∀ b o, b ≠ it → s.heap.get? b = some o → h'.get? b = some o) → Q none { s with heap := h' }) : wpAny (model prog w) A (pyNext (.ref it)) Q E s := by
  obtain ⟨o, ho, hc, hd⟩ := id hit
  obtain ⟨hh, o1, vs1, h1, d1, c1⟩ := hot
  unfold pyNext
  refine wpAny_bind (wpAny_attempt (wpAny_callSpecial?_slot (name := Str.ofString "__next__") hit.typeIs F.slot_str_ascii_iterator_next (wpAny_call_entry F.slot_str_ascii_iterator_next hit.typeIs F.entry_str_ascii_iterator_next ?_ (F.args_str_ascii_iterator_next_1 _))))
  show wpAny _ _ (field (.ref it) 0 >>= _) _ _ s
  refine wpAny_bind (wpAny_field ho hd (x := .str x t) rfl ?_)
  show wpAny _ _ (field (.ref it) 1 >>= _) _ _ s
  refine wpAny_bind (wpAny_field ho hd (x := .int i 0) rfl ?_)
  simp only [Int.toNat_natCast, hx]
  refine wpAny_bind (wpAny_rule (wpAny_bind (wpAny_setField ho hd (by simp) (wpAny_bind (wpAny_letGo ?_)))))
  have up : ∀ b u, b ≠ it → s.heap.get? b = some u → (s.heap.update it (Obj.mapFields (·.setIfInBounds 0 .none))).get? b = some u := fun b u nb e => (Heap.get?_update_other _ _ (Ne.symm nb)).trans e
  exact stop_hot (it := it) (h0 := s.heap) ⟨hh, o1, vs1, up _ _ (Ne.symm ne) h1, d1, c1⟩ up hQ
theorem wide_end_hot {it x1 : Addr} {x : Str} {t : Tok} {i : Nat} {Q : Option Value → Shared → Prop} (hot : HotAt A x1 s.heap) (ne : it ≠ x1) (hit : s.heap.IsStrIter it "str_iterator" x t i) (hx : x.cps[i]? = none)
    (hQ : ∀ h', (∀ b o, b ≠ it → s.heap.get? b = some o → h'.get? b = some o) → Q none { s with heap := h' }) : wpAny (model prog w) A (pyNext (.ref it)) Q E s := by
  obtain ⟨o, ho, hc, hd⟩ := id hit
  obtain ⟨hh, o1, vs1, h1, d1, c1⟩ := hot
  unfold pyNext
  refine wpAny_bind (wpAny_attempt (wpAny_callSpecial?_slot (name := Str.ofString "__next__") hit.typeIs F.slot_str_iterator_next (wpAny_call_entry F.slot_str_iterator_next hit.typeIs F.entry_str_iterator_next ?_ (F.args_str_iterator_next_1 _))))
  show wpAny _ _ (field (.ref it) 0 >>= _) _ _ s
  refine wpAny_bind (wpAny_field ho hd (x := .str x t) rfl ?_)
  show wpAny _ _ (field (.ref it) 1 >>= _) _ _ s
  refine wpAny_bind (wpAny_field ho hd (x := .int i 0) rfl ?_)
  simp only [Int.toNat_natCast, hx]
  refine wpAny_bind (wpAny_rule (wpAny_bind (wpAny_setField ho hd (by simp) (wpAny_bind (wpAny_letGo ?_)))))
  have up : ∀ b u, b ≠ it → s.heap.get? b = some u → (s.heap.update it (Obj.mapFields (·.setIfInBounds 0 .none))).get? b = some u := fun b u nb e => (Heap.get?_update_other _ _ (Ne.symm nb)).trans e
  exact stop_hot (it := it) (h0 := s.heap) ⟨hh, o1, vs1, up _ _ (Ne.symm ne) h1, d1, c1⟩ up hQ
end
theorem turn_strH {P : Program} {w : World} {K : PySem.W.Frag} {tg : Expr} (it : Addr) (x : Str) (t : Tok) (ty : String) (hty : ty = "str_ascii_iterator" ∨ ty = "str_iterator") :
    TurnH P w K tg (Its x) [it] it (fun i h => h.IsStrIter it ty x t i) where
  mem := (turn_str (P := P) (w := w) (K := K) (tg := tg) it x t ty hty).mem
  obj := (turn_str (P := P) (w := w) (K := K) (tg := tg) it x t ty hty).obj
  keep := (turn_str (P := P) (w := w) (K := K) (tg := tg) it x t ty hty).keep
  item := by
    intro X hP hw hK hc i pins s σ H E I hf st hg
    subst hP hw hK
    obtain ⟨f0, f1, f2, f3, f4, f5⟩ := hf it (by simp)
    have hlt : i < x.cps.size := hg
    have hx : x.cps[i]? = some x.cps[i] := Array.getElem?_eq_getElem hlt
    have no : ["enumerate", "zip", "dict_itemiterator", "dict_reverseitemiterator", "odict_iterator", "itertools.zip_longest", "itertools.pairwise"].contains ty = false := by
      rcases hty with e | e <;> rw [e] <;> decide
    have fin : ∀ h', h'.IsStrIter it ty x t (i + 1) → Heap.SameBut it s.heap h' → ∃ u, some (Value.str ⟨#[x.cps[i]]⟩ s.toks) = some u ∧
        wpAny (model X.prog X.w) X.A (letOwnedTupleGo tg (.ref it) u) (fun _ s2 => ∃ y H', Inv X pins σ H' s2 ∧ RelV y u ∧ (Its x).yld i H y H' ∧ s2.heap.IsStrIter it ty x t (i + 1) ∧ ∀ b ∈ [it], H' b = none) E { s with heap := h', toks := s.toks + 1 } := fun h' st' sb => by
      have I1 : Inv X pins σ H { s with heap := h', toks := s.toks + 1 } := I.turned (fun b o hb e => (sb.2 b hb).trans e) f0 f1 f3 f4 f5
      obtain ⟨oi, e, cc, dd⟩ := id st'
      exact ⟨_, rfl, go_of (s := { s with heap := h', toks := s.toks + 1 }) e cc dd no ⟨.str ⟨#[x.cps[i]]⟩, H, I1, ⟨_, rfl⟩, ⟨rfl, _, hx, rfl⟩, st', fun b hb => (hf b hb).1⟩⟩
    rcases hty with rfl | rfl
    · exact wpAny_pyNext_ascii_item st hx fin
    · exact wpAny_pyNext_wide_item st hx fin
  done := by
    intro X hP hw hK hc i pins s σ H E I hf st hg
    subst hP hw hK
    have hit := hf it (by simp)
    obtain ⟨f0, f1, f2, f3, f4, f5⟩ := id hit
    obtain ⟨x1, hot, ne⟩ := hot_at hc I hit
    have hx : x.cps[i]? = none := Array.getElem?_eq_none hg
    rcases hty with rfl | rfl
    · exact ascii_end_hot hot ne st hx fun h' eb => ⟨rfl, I.turned (t' := s.toks) (fun b o hb e => eb b o hb e) f0 f1 f3 f4 f5⟩
    · exact wide_end_hot hot ne st hx fun h' eb => ⟨rfl, I.turned (t' := s.toks) (fun b o hb e => eb b o hb e) f0 f1 f3 f4 f5⟩
  self := (turn_str (P := P) (w := w) (K := K) (tg := tg) it x t ty hty).self
theorem pi_strH {X : Cx} {tg e : Expr} {te : TE} (he : PE X e te) : PIH X tg e (iStr te) := by
  constructor
  intro pins s σ H R I h
  refine thn (he.run pins s σ H _ I h) fun v s1 ⟨y, H1, I1, r1, x, ex, q⟩ => ?_
  subst ex
  obtain ⟨t, rfl⟩ := r1
  cases ha : x.cps.all (· < 128)
  · exact wpAny_pyIter_wide ha (one_hot _ I1 (turn_strH _ x t "str_iterator" (.inr rfl)) ⟨_, Heap.get?_push_size _ rfl, rfl, rfl⟩ q)
  · exact wpAny_pyIter_ascii ha (one_hot _ I1 (turn_strH _ x t "str_ascii_iterator" (.inl rfl)) ⟨_, Heap.get?_push_size _ rfl, rfl, rfl⟩ q)
end Hw
set_option Elab.async false
set_option linter.all false
set_option maxRecDepth 100000
set_option maxHeartbeats 4000000
namespace Wp
open PySem PySem.Spec PyProof.Rows L2 L2H
/-! ## the same while an exception is handled -/
structure KnownH (P : Program) (w : World) (K : PySem.W.Frag) (mg : Str → Option Value) (base : Heap) (CX : CXT) (k : Nat) (x : Str) (ps : List Str) (sp : Sp) (f : Addr) (fd : FuncData) : Prop where
  ok : FnH P w K mg base CX k f fd ps sp
  mg : mg x = some (.ref f)
  kp : PySem.W.keepIn K (.ref f) = true
  bi : Binds K fd ps []
section
variable {P : Program} {w : World} {K : PySem.W.Frag} {mg : Str → Option Value} {base : Heap}
theorem okH {CX : CXT} {k : Nat} {f : Addr} {fd : FuncData} {x qual : Str} {st : Stmt} {N ps : List Str} {sp : Sp} (F : Fun K x qual st f fd) (S : FnScope N ps (defScope st)) (len : ∀ ys H Q E, sp ys H Q E → ys.length = ps.length)
    (body : ∀ (cd : Value) (A : Around) (out : List Env) (s : Shared) (H : Hp) (ys : List V) (Q : VK) (E : XK) (p : Addr × Obj), Hot1 A p → RoomH k (A.deeper (envOfC qual (defScope st) s.heap.objs.size f cd)) → sp ys H Q E →
      ∃ t, PSs (cxH CX P w K mg base N qual (defScope st) f cd A out s H E p) (defBody st) t ∧ t { nx := fun _ H' => Q .non H', rt := Q } (L2.start N ys) H) : FnH P w K mg base CX (k + 1) f fd ps sp := by
  obtain ⟨oc, od, kV, doc, pm, an, cd, ct, osl, rfl, lk, hcd⟩ := F.ex
  exact fn_ofH lk hcd S len fun A out s H ys Q E p h1 h2 h3 => body cd A out s H ys Q E p h1 h2 h3
theorem hotc {CX : CXT} {N : List Str} {qual : Str} {scope : Scope} {f : Addr} {cd : Value} {A : Around} {outer : List Env} {s : Shared} {H : Hp} {E : XK} {p : Addr × Obj} (hot : Hot1 A p) : HotC (cxH CX P w K mg base N qual scope f cd A outer s H E p) := ⟨p, hot, List.mem_singleton.mpr rfl⟩
def E0S : L2.St → XK := fun _ => E0
theorem passH {X : Cx} : ∀ σ, PassesAt CX0 X σ (E0S σ) := fun _ _ _ _ _ _ _ h => h.elim
theorem okH_lLet {f : Addr} {fd : FuncData} (F : Fun K "_law_letters" "_law_letters" lLet f fd) (B : Bn mg) : FnH P w K mg base CX0 1 f fd ["_law_text"] spLet := by
  refine okH F scLLet (fun vs H Q E h => ?_) (fun cdv A outer s H vs Q E pp hot hr h => ?_)
  · obtain ⟨v, rfl, _⟩ := h
    rfl
  · obtain ⟨x, rfl, few, k⟩ := h
    refine ⟨_, pss_one (ps_ret (pe_cmpR op_eq (pe_callB call_len_seq (by rfl) B.len PySem.boot_len (pa_cons (Hw.pe_lcH (own := [("_law_sign", 1)]) (g := gName 1) (hotc hot) scLLet.nd (Hw.pi_strH (pv 0))
        (blkOk_by (N := ["_law_text", "_law_sign"]) (sc := defScope lLet) (by decide +kernel)) (fun _ _ _ _ _ => pg_name (i := 1) scLLet.nd rfl (Or.inl rfl)) (fun _ _ _ _ _ => pts_one (pt_cmpR op_notIn_sign (pv 1) pe_str (by rfl)))
        (fun _ _ _ _ _ => pv 1)) pa_nil)) pe_int (nomark _))), ?_⟩
    refine ⟨_, rfl, x, rfl, fun D hD => ?_⟩
    refine lc_it walk_str (fun j H' => H' = upd H D (.lst (((x.cps.toList.take j).filter fun c => !decide (c ∈ smallS.cps.toList)).map fun c => V.str ⟨#[c]⟩))) rfl (fun _ _ _ _ => trivial) ?_ ?_
    · rintro j y H1 H2 hj rfl ⟨rfl, c, hc, rfl⟩
      refine ⟨rfl, ⟨_, rfl, c, smallS, rfl, rfl, _, rfl, ?_⟩⟩
      have tk : x.cps.toList.take (j + 1) = x.cps.toList.take j ++ [c] := by
        rw [List.take_add_one, Array.getElem?_toList, hc]
        rfl
      cases e : decide (c ∈ smallS.cps.toList) with
      | true =>
        refine iteF ?_
        have e2 : ([c].filter fun c => !decide (c ∈ smallS.cps.toList)) = [] := by
          rw [List.filter_cons, e]
          rfl
        rw [tk, List.filter_append, e2, List.append_nil]
      | false =>
        refine iteT ?_
        refine ⟨_, rfl, _, upd_same, ?_, ?_⟩
        · have e1 : x.cps.size ≤ 1000 := few
          have e2 := List.length_filter_le (fun c => !decide (c ∈ smallS.cps.toList)) (x.cps.toList.take j)
          rw [List.length_take] at e2
          rw [sizeLine_eq, List.length_map]
          omega
        · have e2 : ([c].filter fun c => !decide (c ∈ smallS.cps.toList)) = [c] := by
            rw [List.filter_cons, e]
            rfl
          rw [upd_upd, tk, List.filter_append, e2, List.map_append]
          rfl
    · rintro H1 rfl
      rw [List.take_of_length_le (by simp)]
      refine ⟨D, _, rfl, .inl (SqL.of upd_same), rfl, ?_⟩
      have r := k _ (same_new (o := .lst ((x.cps.toList.filter fun c => !decide (c ∈ smallS.cps.toList)).map fun c => V.str ⟨#[c]⟩)) hD)
      have e : decide (V.int (((x.cps.toList.filter fun c => !decide (c ∈ smallS.cps.toList)).map fun c => V.str ⟨#[c]⟩).length) = V.int 0) = lettersIn smallS x := by
        rw [Bool.eq_iff_iff, decide_eq_true_iff]
        show _ ↔ (x.cps.toList.all fun c => decide (c ∈ smallS.cps.toList)) = true
        rw [← filter_nil]
        constructor
        · intro z
          injection z with z
          rw [List.length_map] at z
          exact List.eq_nil_of_length_eq_zero (by omega)
        · intro z
          rw [z]
          rfl
      rw [e]
      exact r
theorem okH_lFld {f f1 : Addr} {fd fd1 : FuncData} (F : Fun K "_law_is_field_name" "_law_is_field_name" lFld f fd) (B : Bn mg) (L : KnownH P w K mg base CX0 1 "_law_letters" ["_law_text"] spLet f1 fd1) : FnH P w K mg base CX0 2 f fd ["_law_thing"] (spIsField K) := by
  refine okH F scLFld (fun vs H Q E h => ?_) (fun cdv A outer s H vs Q E pp hot hr h => ?_)
  · obtain ⟨v, d, rfl, _⟩ := h
    rfl
  · obtain ⟨v, d, rfl, q, sh, k⟩ := h
    refine ⟨_, pss_one (ps_ret (pe_and (pe_callB call_isi (by rfl) B.isi boot_isi (pa_cons (pv 0) (pa_cons (pe_bltn (v := .ty "str") (by rfl) B.str boot_tstr rfl) pa_nil)))
      (pe_and (pe_chain op_le op_le pe_int (pe_callB call_len_str (by rfl) B.len PySem.boot_len (pa_cons (pv 0) pa_nil)) pe_int)
      (pe_one (pe_callH L.ok hr (hotc hot) rfl L.mg L.kp L.bi passH (pa_cons (pv 0) pa_nil)))))), ?_⟩
    refine ⟨_, rfl, _, _, _, _, _, rfl, .ty "str", q.ty, kit_str d, _, rfl, ?_⟩
    cases d with
    | str x =>
      obtain rfl := q.str_of
      have few : x.length ≤ 1000 := sh
      have line : x.length ≤ sizeLine := by
        rw [sizeLine_eq]
        omega
      refine ⟨_, rfl, x, rfl, line, _, _, rfl, rfl, _, rfl, ?_⟩
      have bad : isFieldName (.str x) = false → Q (.bl false) H := fun e => by
        have r := k H (Same.refl _)
        rw [e] at r
        exact r
      refine ite2 (fun h1 => ?_) (fun h1 => ?_)
      · refine ⟨_, _, rfl, rfl, _, rfl, ?_⟩
        refine ite2 (fun h2 => ?_) (fun h2 => ?_)
        · refine ⟨_, rfl, x, rfl, few, fun H' s' => ?_⟩
          have r := k H' s'
          have e : isFieldName (.str x) = lettersIn smallS x := by
            simp only [isFieldName, isWordN]
            rw [decide_eq_true (p := 1 ≤ x.length) (by have := of_decide_eq_true h1; omega), decide_eq_true (p := (x.length : Int) ≤ 8) (of_decide_eq_true h2)]
            simp
          rw [e] at r
          exact r
        · refine bad ?_
          simp only [isFieldName, isWordN]
          rw [decide_eq_false (p := (x.length : Int) ≤ 8) fun z => h2 (decide_eq_true z)]
          simp
      · refine ⟨_, rfl, ?_⟩
        rw [if_neg (by decide)]
        refine bad ?_
        simp only [isFieldName, isWordN]
        rw [decide_eq_false (p := 1 ≤ x.length) fun z => h1 (decide_eq_true (by omega))]
        simp
    | _ => exact k H fun b o e => e
theorem okH_lKnd {f f1 : Addr} {fd fd1 : FuncData} (F : Fun K "_law_is_kind_name" "_law_is_kind_name" lKnd f fd) (B : Bn mg) (L : KnownH P w K mg base CX0 1 "_law_letters" ["_law_text"] spLet f1 fd1) : FnH P w K mg base CX0 2 f fd ["_law_thing"] (spIsKind K) := by
  refine okH F scLKnd (fun vs H Q E h => ?_) (fun cdv A outer s H vs Q E pp hot hr h => ?_)
  · obtain ⟨v, d, rfl, _⟩ := h
    rfl
  · obtain ⟨v, d, rfl, q, sh, k⟩ := h
    refine ⟨_, pss_cons (ps_if (PW.pt (pw_or (pt_not (pt_val (pe_callB call_isi (by rfl) B.isi boot_isi (pa_cons (pv 0) (pa_cons (pe_bltn (v := .ty "str") (by rfl) B.str boot_tstr rfl) pa_nil)))))
        (pw_or1 (pt_not (pt_chain op_le op_le pe_int (pe_callB call_len_str (by rfl) B.len PySem.boot_len (pa_cons (pv 0) pa_nil)) pe_int)))))
        (pss_one (ps_ret pe_bl)) pss_nil)
      (pss_one (ps_ret (pe_and (pe_cmpR op_in_sign (pe_ix ix_str (pv 0) pe_int (fun _ _ => rfl)) pe_str (by rfl))
        (pe_one (pe_callH L.ok hr (hotc hot) rfl L.mg L.kp L.bi passH (pa_cons (pe_slice L2.sl_str (pv 0) (po_some pe_int) po_none) pa_nil)))))), ?_⟩
    refine ⟨_, rfl, _, _, _, _, _, rfl, .ty "str", q.ty, kit_str d, _, rfl, ?_⟩
    cases d with
    | str x =>
      obtain rfl := q.str_of
      have few : x.length ≤ 1000 := sh
      have line : x.length ≤ sizeLine := by
        rw [sizeLine_eq]
        omega
      have bad : isKindName (.str x) = false → Q (.bl false) H := fun e => by
        have r := k H (Same.refl _)
        rw [e] at r
        exact r
      refine ⟨_, rfl, x, rfl, line, _, _, rfl, rfl, _, rfl, ?_⟩
      refine ite2 (fun h1 => ?_) (fun h1 => ?_)
      · refine ⟨_, _, rfl, rfl, _, rfl, ?_⟩
        cases h2 : decide ((x.length : Int) ≤ 8) with
        | true =>
          have g1 : 1 ≤ x.length := by
            have := of_decide_eq_true h1
            omega
          have g2 : x.length ≤ 8 := by
            have := of_decide_eq_true h2
            omega
          obtain ⟨c, r, ex⟩ : ∃ c r, x.cps.toList = c :: r := by
            cases e : x.cps.toList with
            | nil =>
              have : x.cps.toList.length = 0 := by rw [e]; rfl
              rw [Array.length_toList] at this
              have e2 : x.length = x.cps.size := rfl
              omega
            | cons c r => exact ⟨c, r, rfl⟩
          refine ⟨_, rfl, x, 0, c, rfl, rfl, line, by rw [ex]; exact atI_nat (j := 0) rfl, c, largeS, rfl, rfl, _, rfl, ?_⟩
          have ek : isKindName (.str x) = (decide (c ∈ largeS.cps.toList) && r.all fun c => decide (c ∈ smallS.cps.toList)) := by
            simp only [isKindName, ex]
            simp [g2]
          cases h3 : decide (c ∈ largeS.cps.toList) with
          | true =>
            refine ⟨_, rfl, 1, rfl, x, rfl, line, cutS x (some 1) none, rfl, Nat.le_trans (cutS_length _ _ _) few, fun H' s' => ?_⟩
            have r1 := k H' s'
            rw [ek, h3, Bool.true_and] at r1
            have ec := cut_tail ex
            unfold lettersIn
            rw [ec]
            exact r1
          | false => exact bad (by rw [ek, h3]; rfl)
        | false =>
          refine bad ?_
          simp only [isKindName]
          cases x.cps.toList with
          | nil => rfl
          | cons c r =>
            rw [decide_eq_false (p := x.length ≤ 8) (by have := of_decide_eq_false h2; omega)]
            rfl
      · refine ⟨_, rfl, bad ?_⟩
        have e0 : x.length = 0 := by
          have := h1
          simp at this
          omega
        have e1 : x.cps.toList = [] := by
          apply List.eq_nil_of_length_eq_zero
          rw [Array.length_toList]
          exact e0
        simp only [isKindName, e1]
    | _ => exact k H fun b o e => e
end
end Wp
set_option Elab.async false
set_option linter.all false
set_option maxRecDepth 100000
set_option maxHeartbeats 4000000
namespace Wp
open PySem PySem.Spec PyProof.Rows L2 L2H
/-! ## count of a text among texts -/
section
variable {X : Cx}
def rCntT (K : PySem.W.Frag) : V → List V → Hp → VK → Prop := fun x xs H Q => ∃ (p : Addr) (zs : List Str) (z : Str), x = .ref p ∧ xs = [.str z] ∧ SqL K H p (zs.map V.str) ∧ Q (.int (zs.count z : Nat)) H
theorem dp_txts {K : PySem.W.Frag} {H : Hp} : ∀ zs : List Str, DpAll K H (zs.map V.str) (zs.map PyData.str)
  | [] => .nil
  | z :: zs => .cons (.str z) (dp_txts zs)
theorem plain_txts : ∀ zs : List Str, PyData.plainAll (zs.map PyData.str) = true
  | [] => by simp [PyData.plainAll]
  | z :: zs => by
    show (PyData.plain (.str z) && PyData.plainAll (zs.map PyData.str)) = true
    rw [plain_txts zs]
    simp [PyData.plain]
theorem flat_txts : ∀ zs : List Str, PyData.depthAll (zs.map PyData.str) = 0
  | [] => by simp [PyData.depthAll]
  | z :: zs => by simp [PyData.depthAll, PyData.depth, flat_txts zs]
theorem count_txts (z : Str) : ∀ zs : List Str, (zs.map PyData.str).countP (fun y => PyData.eqv y (.str z)) = zs.count z
  | [] => rfl
  | y :: zs => by
    rw [List.map_cons, List.countP_cons, List.count_cons, count_txts z zs]
    have e : PyData.eqv (.str y) (.str z) = (y == z) := by simp [PyData.eqv]
    rw [e]
theorem mt_countT (hu : X.A.units + 1 < cLine) : MtR X "list.count" (rCntT X.K) := by
  intro pins s σ H x xs v us Q I rx rxs h
  obtain ⟨p, zs, z, rfl, rfl, hs, q⟩ := h
  cases rx
  obtain ⟨u, rfl, ru⟩ := vals1 rxs
  obtain ⟨t, rfl⟩ := ru
  obtain ⟨its, rv, pl, hz⟩ := I.list hs
  obtain ⟨as, rs⟩ := Dp.readsAll I (zs.map PyData.str) (zs.map V.str) its (dp_txts zs) rv
  refine SeqAt.count_list_data (d := .str z) (xs := zs.map PyData.str) pl.isList (by simpa using rs) (Reads.str z t) (plain_txts zs) (by simp [PyData.plain]) (by rw [flat_txts]; show X.A.units + 1 + min 0 _ < cLine; omega) ?_
  rw [count_txts]
  exact ⟨.int (zs.count z : Nat), H, I.tok _, ⟨_, rfl⟩, q⟩
end
/-- nothing stands twice -/
theorem none_twice (zs : List Str) : (zs.filter fun z => decide (1 < zs.count z)) = [] ↔ zs.Nodup := by
  rw [List.filter_eq_nil_iff, List.nodup_iff_count]
  constructor
  · intro h a
    by_cases m : a ∈ zs
    · have := h a m
      simpa using this
    · rw [List.count_eq_zero_of_not_mem m]
      omega
  · intro h a _
    have := h a
    simpa using this
end Wp
set_option Elab.async false
set_option linter.all false
set_option maxRecDepth 100000
set_option maxHeartbeats 4000000
namespace Wp
open PySem PySem.Spec PyProof.Rows L2 L2H
/-! ## a kind's parts, asked while an exception is handled -/
abbrev lKR : Stmt := top 56
abbrev nKR : List Str := ["_law_parts", "_law_name", "_law_fields", "_law_own_base", "_law_own_frozen", "_law_own_heirs", "_law_own_key", "_law_own_registered", "_law_names", "_law_field", "_law_one"]
section
variable {P : Program} {w : World} {K : PySem.W.Frag} {mg : Str → Option Value} {base : Heap}
theorem scKR : FnScope nKR ["_law_parts"] (defScope lKR) := ⟨rfl, rfl, rfl, by decide +kernel, rfl, by decide +kernel, by decide +kernel⟩
theorem krH_tail {f f2 : Addr} {fd2 : FuncData} {cdv : Value} {A : Around} {outer : List Env} {s : Shared} {H0 : Hp} {Q : VK} {E : XK} {pp : Addr × Obj} (B : Bn mg) (hot : Hot1 A pp) (hr : RoomH 2 (A.deeper (envOfC "_law_kind_right" (defScope lKR) s.heap.objs.size f cdv)))
    (NF : KnownH P w K mg base CX0 2 "_law_is_field_name" ["_law_thing"] (spIsField K) f2 fd2) :
    ∃ t, PSs (cxH CX0 P w K mg base nKR "_law_kind_right" (defScope lKR) f cdv A outer s H0 E pp) ((defBody lKR).drop 6) t ∧
      ∀ (ub uf uh uk ur : V) (b ff h k r : PyData) (y0 y1 y2 y8 y9 y10 : Option V) (H : Hp), Dq K H ub b → Dq K H uf ff → Dq K H uh h → Dq K H uk k → Dq K H ur r → Shrt k →
        (∀ H', Same H H' → Q (.bl ((isNon k || isFieldName k) && canBe b ff h k r)) H') →
        t { nx := fun _ H' => Q .non H', rt := Q } [y0, y1, y2, some ub, some uf, some uh, some uk, some ur, y8, y9, y10] H := by
  obtain ⟨tZ, hZ, qZ⟩ : ∃ t, PSs (cxH CX0 P w K mg base nKR "_law_kind_right" (defScope lKR) f cdv A outer s H0 E pp) ((defBody lKR).drop 8) t ∧
      ∀ (ub uk : V) (x y z nb nk : Bool) (y0 y1 y2 y8 y9 y10 : Option V) (H : Hp), decide (ub = .non) = nb → decide (uk = .non) = nk → Q (.bl (!(!nb && (x || y)) && !(y && (x || !nk)) && (!nk || !z))) H →
        t { nx := fun _ H' => Q .non H', rt := Q } [y0, y1, y2, some ub, some (.bl x), some (.bl y), some uk, some (.bl z), y8, y9, y10] H := by
    refine ⟨_, pss_cons (ps_if (PW.pt (pw_and (pt_cmpR op_notN (pv 3) pe_non (nomark _)) (pw_and1 (PW.pt (pw_or (pt_val (pv 4)) (pw_or1 (pt_val (pv 5))))))))
        (pss_one (ps_ret pe_bl)) pss_nil)
      (pss_cons (ps_if (PW.pt (pw_and (pt_val (pv 5)) (pw_and1 (PW.pt (pw_or (pt_val (pv 4)) (pw_or1 (pt_cmpR op_notN (pv 6) pe_non (nomark _))))))))
        (pss_one (ps_ret pe_bl)) pss_nil)
      (pss_one (ps_ret (pe_or (pe_not (pv 7)) (pe_one (pe_cmpR op_notN (pv 6) pe_non (nomark _))))))), ?_⟩
    intro ub uk x y z nb nk y0 y1 y2 y8 y9 y10 H e1 e2 q
    refine if_pure (c := !nb && (x || y)) (fun R hR => ?_) ?_
    · refine ⟨_, rfl, rfl, _, rfl, ?_⟩
      rw [e1]
      revert hR
      cases nb with
      | true => exact fun hR => hR
      | false =>
        intro hR
        refine ⟨_, rfl, x, rfl, ?_⟩
        cases x with
        | true => exact hR
        | false => exact ⟨_, rfl, y, rfl, hR⟩
    cases c1 : (!nb && (x || y)) with
    | true =>
      rw [c1] at q
      exact q
    | false =>
      rw [c1] at q
      refine iteF ?_
      unfold tNext
      dsimp only
      refine if_pure (c := y && (x || !nk)) (fun R hR => ?_) ?_
      · refine ⟨_, rfl, y, rfl, ?_⟩
        cases y with
        | false => exact hR
        | true =>
          refine ⟨_, rfl, x, rfl, ?_⟩
          cases x with
          | true => exact hR
          | false =>
            refine ⟨_, rfl, rfl, _, rfl, ?_⟩
            rw [e2]
            exact hR
      cases c2 : (y && (x || !nk)) with
      | true =>
        rw [c2] at q
        exact q
      | false =>
        rw [c2] at q
        refine ⟨_, rfl, z, rfl, _, rfl, ?_⟩
        cases z with
        | false =>
          rw [show (!nk || !false) = true by simp] at q
          exact q
        | true =>
          refine ⟨_, rfl, rfl, ?_⟩
          rw [e2]
          rw [show (!nk || !true) = !nk by simp] at q
          exact q
  refine ⟨_, pss_cons (ps_if (PW.pt (pw_or (pt_not (pt_val (pe_callB call_isi (by rfl) B.isi boot_isi (pa_cons (pv 4) (pa_cons (pe_bltn (v := .ty "bool") (by rfl) B.bool boot_tbool rfl) pa_nil)))))
        (pw_or (pt_not (pt_val (pe_callB call_isi (by rfl) B.isi boot_isi (pa_cons (pv 5) (pa_cons (pe_bltn (v := .ty "bool") (by rfl) B.bool boot_tbool rfl) pa_nil)))))
        (pw_or1 (pt_not (pt_val (pe_callB call_isi (by rfl) B.isi boot_isi (pa_cons (pv 7) (pa_cons (pe_bltn (v := .ty "bool") (by rfl) B.bool boot_tbool rfl) pa_nil)))))))))
      (pss_one (ps_ret pe_bl)) pss_nil)
    (pss_cons (ps_if (PW.pt (pw_and (pt_cmpR op_notN (pv 6) pe_non (nomark _)) (pw_and1 (pt_not (pt_val (pe_callH NF.ok hr (hotc hot) rfl NF.mg NF.kp NF.bi passH (pa_cons (pv 6) pa_nil)))))))
      (pss_one (ps_ret pe_bl)) pss_nil)
    hZ), ?_⟩
  intro ub uf uh uk ur b ff h k r y0 y1 y2 y8 y9 y10 H qb qf qh qk qr sk kk
  have fin : ∀ c H', Same H H' → ((isNon k || isFieldName k) && canBe b ff h k r) = c → Q (.bl c) H' := fun c H' s1 e => e ▸ kk H' s1
  have nob : (isBool ff && isBool h && isBool r) = false → Q (.bl false) H := fun e => fin false H (Same.refl _) (by simp only [canBe, e, Bool.false_and, Bool.and_false])
  refine ⟨_, rfl, uf, .ty "bool", _, .type "bool", _, rfl, .ty _, qf.ty, kit_bool ff, _, rfl, ?_⟩
  cases e1 : isBool ff with
  | false => exact nob (by rw [e1]; rfl)
  | true =>
    refine ⟨_, rfl, uh, .ty "bool", _, .type "bool", _, rfl, .ty _, qh.ty, kit_bool h, _, rfl, ?_⟩
    cases e2 : isBool h with
    | false => exact nob (by rw [e1, e2]; rfl)
    | true =>
      refine ⟨_, rfl, ur, .ty "bool", _, .type "bool", _, rfl, .ty _, qr.ty, kit_bool r, _, rfl, ?_⟩
      cases e3 : isBool r with
      | false => exact nob (by rw [e1, e2, e3]; rfl)
      | true =>
        obtain ⟨x, rfl, rfl⟩ := qf.bool_of e1
        obtain ⟨y, rfl, rfl⟩ := qh.bool_of e2
        obtain ⟨z, rfl, rfl⟩ := qr.bool_of e3
        have nb := qb.non
        have nk := qk.non
        have ec : canBe b (.bool x) (.bool y) k (.bool z) = (!(!isNon b && (x || y)) && !(y && (x || !isNon k)) && (!isNon k || !z)) := by
          simp only [canBe, isBool, tru, Bool.true_and]
        rw [ec] at kk
        refine iteF ?_
        unfold tNext
        dsimp only
        refine ⟨_, rfl, rfl, _, rfl, ?_⟩
        rw [nk]
        cases e4 : isNon k with
        | true =>
          rw [e4] at kk
          exact qZ ub uk x y z _ _ _ _ _ _ _ _ H nb (nk.trans e4) (kk H (Same.refl _))
        | false =>
          rw [e4] at kk
          refine ⟨_, rfl, uk, k, rfl, qk, sk, fun H1 s1 => ⟨_, rfl, ?_⟩⟩
          have k1 := kk H1 s1
          cases e5 : isFieldName k with
          | false =>
            rw [e5] at k1
            exact k1
          | true =>
            rw [e5] at k1
            exact qZ ub uk x y z _ _ _ _ _ _ _ _ H1 nb (nk.trans e4) k1
end
end Wp
set_option Elab.async false
set_option linter.all false
set_option maxRecDepth 100000
set_option maxHeartbeats 4000000
namespace Wp
open PySem PySem.Spec PyProof.Rows L2 L2H
theorem pi_seqVH {X : Cx} {tg l : Expr} {i : Nat} (h : PE X l (tVar i)) : PIH X tg l (iSeqV X.K i) := by
  constructor
  rintro pins s σ H R I ⟨a, xs, e, sq, k⟩
  refine (Hw.pih_or (Hw.pi_listH h) (Hw.pi_tupH h)).run pins s σ H R I ?_
  rcases sq with sq | sq
  · exact .inl ⟨_, e, a, rfl, ⟨xs, sq⟩, k _ _ walk_list fun H' z => z.sqL sq⟩
  · exact .inr ⟨_, e, a, rfl, ⟨xs, sq⟩, k _ _ walk_tup fun H' z => z.sqT sq⟩
section
variable {P : Program} {w : World} {K : PySem.W.Frag} {mg : Str → Option Value} {base : Heap}
theorem krH_names {f f1 f2 CF : Addr} {fd1 fd2 : FuncData} {cdv : Value} {A : Around} {outer : List Env} {s : Shared} {H0 : Hp} {Q : VK} {E : XK} {pp : Addr × Obj} (B : Bn mg) (hot : Hot1 A pp) (hr : RoomH 2 (A.deeper (envOfC "_law_kind_right" (defScope lKR) s.heap.objs.size f cdv)))
    (NK : KnownH P w K mg base CX0 2 "_law_is_kind_name" ["_law_thing"] (spIsKind K) f1 fd1) (NF : KnownH P w K mg base CX0 2 "_law_is_field_name" ["_law_thing"] (spIsField K) f2 fd2) (C : PlainC K CF ["name", "mode", "target", "default", "was"]) :
    ∃ t, PSs (cxH CX0 P w K mg base nKR "_law_kind_right" (defScope lKR) f cdv A outer s H0 E pp) ((defBody lKR).drop 3) t ∧
      ∀ (un ub uf uh uk ur : V) (n b ff h k r : PyData) (a : Addr) (us : List V) (its : List Item) (y0 y8 y9 y10 : Option V) (H : Hp), isKindName n = true → Dq K H un n → Dq K H ub b → Dq K H uf ff → Dq K H uh h → Dq K H uk k → Dq K H ur r → Shrt n → Shrt b → Shrt k →
        (SqL K H a us ∨ SqT K H a us) → Paired (ItAt K CF H) us its → its.length ≤ 10 → its.all isF = true →
        (∀ H', Same H H' → Q (.bl (kindRight n (some its) b ff h k r)) H') →
        t { nx := fun _ H' => Q .non H', rt := Q } [y0, some un, some (.ref a), some ub, some uf, some uh, some uk, some ur, y8, y9, y10] H := by
  have hu : (A.deeper (envOfC "_law_kind_right" (defScope lKR) s.heap.objs.size f cdv)).units + 64 < cLine := by
    have := hr.un
    omega
  have hu1 : (A.deeper (envOfC "_law_kind_right" (defScope lKR) s.heap.objs.size f cdv)).units + 1 < cLine := by omega
  obtain ⟨tZ, hZ, qZ⟩ := krH_tail (P := P) (w := w) (K := K) (mg := mg) (base := base) (f := f) (cdv := cdv) (A := A) (outer := outer) (s := s) (H0 := H0) (Q := Q) (E := E) (pp := pp) B hot hr NF
  refine ⟨_, pss_cons (ps_set (i := 8) scKR.nd rfl (.inr rfl) (Hw.pe_lcH (own := [("_law_field", 9)]) (g := gName 9) (tt := tYes) (te := tFld K (tVar 9) "name") (hotc hot) scKR.nd (pi_seqVH (i := 2) (pv 2))
        (blkOk_by (N := nKR) (sc := defScope lKR) (by decide +kernel)) (fun _ _ _ _ _ => pg_name (i := 9) scKR.nd rfl (Or.inl rfl)) (fun _ _ _ _ _ => pts_nil) (fun _ _ _ _ _ => pe_fld (pv 9) rfl)))
    (pss_cons (ps_if (pt_cmpR op_gt (pe_callB call_len_seq (by rfl) B.len PySem.boot_len (pa_cons (Hw.pe_lcH (own := [("_law_one", 10)]) (g := gName 10) (te := tVar 10) (tt := tTest (tOp (rI0 fun i j => .bl (decide (j < i))) (tBM K "list" (rCntT K) (tVar 8) (tCons (tVar 10) tNil)) (tC (.int 1)))) (hotc hot) scKR.nd (Hw.pi_listH (pv 8))
          (blkOk_by (N := nKR) (sc := defScope lKR) (by decide +kernel)) (fun _ _ _ _ _ => pg_name (i := 10) scKR.nd rfl (Or.inl rfl))
          (fun _ _ _ _ _ => pts_one (pt_cmpR op_gt (pe_bm PySem.F.plainAttrs_list PySem.F.slot_list_count PySem.F.type_list_count (mt_countT hu1) (pv 8) (pa_cons (pv 10) pa_nil)) pe_int (nomark _)))
          (fun _ _ _ _ _ => pv 10)) pa_nil)) pe_int (nomark _)) (pss_one (ps_ret pe_bl)) pss_nil)
    (pss_cons (ps_if (PW.pt (pw_and (pt_cmpR op_notN (pv 3) pe_non (nomark _)) (pw_and1 (PW.pt (pw_or (pt_not (pt_val (pe_callH NK.ok hr (hotc hot) rfl NK.mg NK.kp NK.bi passH (pa_cons (pv 3) pa_nil)))) (pw_or1 (pt_cmpR (op_eqTxt hu) (pv 3) (pv 1) (nomark _))))))))
      (pss_one (ps_ret pe_bl)) pss_nil)
    hZ)), ?_⟩
  intro un ub uf uh uk ur n b ff h k r a us its y0 y8 y9 y10 H kn qn qb qf qh qk qr sn sb sk sq pr few allF kk
  have ln : us.length = its.length := pr.length
  refine ⟨a, us, rfl, sq, fun J G wk hG D0 hD0 => ?_⟩
  refine lc_grow (f := fun j => V.str (nameOf (its.getD j (.d .none)))) wk (by omega) (fun H' z => hG H' (.of z)) hD0 ?_ ?_
  · intro j x H1 R hx sm k1
    obtain ⟨i0, g1, g2⟩ := paired_get pr hx
    have r := k1 H1 (Same.refl _)
    rw [List.getD_eq_getElem?_getD, g1] at r
    cases i0 with
    | f v =>
      obtain ⟨c, rfl, fb⟩ := g2
      obtain ⟨dx, tw, e, _⟩ := (fb.same sm).ex
      exact ⟨_, rfl, c, CF, dx, _, _, rfl, e, C.cl, C.no _ (by simp), (lk_fs _ _ _ _ _).2.2.2.2, r⟩
    | d dt =>
      have := List.all_eq_true.mp allF _ (List.mem_of_getElem? g1)
      cases this
  · intro H2 s2 hL
    rw [show (List.range us.length).map (fun j => V.str (nameOf (its.getD j (.d .none)))) = (its.map nameOf).map V.str by rw [ln, List.map_map, ← range_map (V.str ∘ nameOf) (.d .none) its]; rfl] at hL
    have lz : (its.map nameOf).length = its.length := List.length_map ..
    generalize hzs : its.map nameOf = zs at hL lz
    refine ⟨_, rfl, D0, rfl, ⟨_, SqL.of hL⟩, fun D1 hD1 => ?_⟩
    have eA : areFields its = decide zs.Nodup := by
      simp only [areFields, allF, decide_eq_true few, Bool.true_and, hzs]
    refine lc_it (walk_list (xs := zs.map V.str)) (fun j H' => Same H2 H' ∧ H' D1 = some (.lst (((zs.take j).filter fun z => decide (1 < zs.count z)).map V.str))) ⟨same_new hD1, upd_same⟩ (fun j H' _ q => SqL.of (q.1 _ _ hL)) ?_ ?_
    · rintro j x H3 H4 hj ⟨sm, eD⟩ ⟨rfl, hx⟩
      obtain ⟨z, hz, rfl⟩ : ∃ z, zs[j]? = some z ∧ x = V.str z := by
        rw [List.getElem?_map] at hx
        cases e : zs[j]? with
        | none => rw [e] at hx; cases hx
        | some z => rw [e] at hx; exact ⟨z, rfl, (Option.some.inj hx).symm⟩
      have tk : zs.take (j + 1) = zs.take j ++ [z] := by
        rw [List.take_add_one, hz]
        rfl
      have lf := List.length_filter_le (fun z => decide (1 < zs.count z)) (zs.take j)
      rw [List.length_take] at lf
      refine ⟨rfl, ⟨_, rfl, .inl ⟨rfl, _, SqL.of (sm _ _ hL)⟩, _, rfl, D0, zs, z, rfl, rfl, SqL.of (sm _ _ hL), _, _, rfl, rfl, _, rfl, ?_⟩⟩
      have ed : decide ((1 : Int) < ((zs.count z : Nat) : Int)) = decide (1 < zs.count z) := by
        by_cases q : 1 < zs.count z
        · rw [decide_eq_true q]
          exact decide_eq_true (by omega)
        · rw [decide_eq_false q]
          exact decide_eq_false (by omega)
      rw [ed]
      cases e : decide (1 < zs.count z) with
      | true =>
        refine iteT ⟨_, rfl, _, eD, ?_, fun c o q => ?_, ?_⟩
        · rw [List.length_map, sizeLine_eq]
          omega
        · rw [upd_ne (ne_of_none q hD1)]
          exact sm _ _ q
        · rw [upd_same, tk, List.filter_append, List.map_append, List.filter_cons, e]
          rfl
      | false =>
        refine iteF ⟨sm, ?_⟩
        rw [eD, tk, List.filter_append, List.filter_cons, e]
        simp
    · rintro H3 ⟨sm, eD⟩
      rw [List.take_of_length_le (by rw [List.length_map]; exact Nat.le_refl _)] at eD
      have s3 := s2.trans sm
      refine ⟨D1, _, rfl, .inl (SqL.of eD), _, _, rfl, rfl, _, rfl, ?_⟩
      by_cases nd : zs.Nodup
      · rw [(none_twice zs).mpr nd]
        refine ite2 (fun q => (by cases q)) (fun _ => ?_)
        have eK : ∀ c, (basedOk n b && ((isNon k || isFieldName k) && canBe b ff h k r)) = c → kindRight n (some its) b ff h k r = c := by
          intro c e
          simp only [kindRight, namedOk, kn, fieldsOk, eA, decide_eq_true nd, Bool.true_and, Bool.and_true]
          rw [← e]
          cases basedOk n b <;> cases (isNon k || isFieldName k) <;> rfl
        have goZ : ∀ (H4 : Hp) (v8 : Option V), Same H H4 → basedOk n b = true → tZ { nx := fun _ H' => Q .non H', rt := Q } [y0, some un, some (.ref a), some ub, some uf, some uh, some uk, some ur, v8, y9, y10] H4 := by
          intro H4 v8 s4 eb
          refine qZ ub uf uh uk ur b ff h k r _ _ _ _ _ _ H4 (qb.same s4) (qf.same s4) (qh.same s4) (qk.same s4) (qr.same s4) sk fun H' s' => ?_
          have q := kk H' (s4.trans s')
          rw [eK _ rfl, eb, Bool.true_and] at q
          exact q
        have noZ : ∀ H4, Same H H4 → basedOk n b = false → Q (.bl false) H4 := by
          intro H4 s4 eb
          have q := kk H4 s4
          rw [eK _ rfl, eb, Bool.false_and] at q
          exact q
        refine ⟨_, rfl, rfl, _, rfl, ?_⟩
        rw [qb.non]
        cases e1 : isNon b with
        | true => exact goZ H3 _ s3 (by simp only [basedOk, e1, Bool.true_or])
        | false =>
          refine ⟨_, rfl, ub, b, rfl, qb.same s3, sb, fun H4 s4 => ⟨_, rfl, ?_⟩⟩
          have s34 := s3.trans s4
          cases e2 : isKindName b with
          | false => exact noZ H4 s34 (by simp only [basedOk, e1, e2, Bool.false_or, Bool.false_and])
          | true =>
            obtain ⟨z, rfl⟩ : ∃ z, b = .str z := by
              cases b <;> first | exact ⟨_, rfl⟩ | exact absurd e2 (by simp [isKindName])
            obtain ⟨x, rfl⟩ : ∃ x, n = .str x := by
              cases n <;> first | exact ⟨_, rfl⟩ | exact absurd kn (by simp [isKindName])
            obtain rfl := qb.str_of
            obtain rfl := qn.str_of
            have sx : SeqAt.shaped (.str x) = true := by
              cases qn with
              | dat _ sh => exact sh
            refine ⟨_, rfl, _, rfl, .str z, x, rfl, sx, qb.same s34, _, rfl, ?_⟩
            have eb : basedOk (.str x) (.str z) = !decide (z = x) := by
              simp only [basedOk, e1, e2, isTxt, Bool.false_or, Bool.true_and]
              by_cases q : z = x
              · rw [q]
              · rw [decide_eq_false q, decide_eq_false fun w => q w.symm]
            show (if isTxt (.str z) x = true then _ else _)
            refine ite2 (fun q => ?_) (fun q => ?_)
            · exact noZ H4 s34 (by rw [eb, show decide (z = x) = true from q]; rfl)
            · exact goZ H4 _ s34 (by rw [eb]; simpa [isTxt] using q)
      · have ne : ¬ ((zs.filter fun z => decide (1 < zs.count z)).map V.str).length = 0 := by
          rw [List.length_map]
          intro q
          exact nd ((none_twice zs).mp (List.eq_nil_of_length_eq_zero q))
        refine ite2 (fun _ => ?_) (fun q => absurd (decide_eq_true (by omega)) q)
        have q := kk H3 s3
        rw [show kindRight n (some its) b ff h k r = false by simp only [kindRight, fieldsOk, eA, decide_eq_false nd, Bool.false_and, Bool.and_false]] at q
        exact q
end
end Wp
set_option Elab.async false
set_option linter.all false
set_option maxRecDepth 100000
set_option maxHeartbeats 4000000
namespace Wp
open PySem PySem.Spec PyProof.Rows L2 L2H
/-- the parts of a kind in the list at l -/
def spKR (K : PySem.W.Frag) (CF : Addr) : Sp := fun vs H Q _ => ∃ (l : Addr) (un ufs ub uf uh uk ur : V) (n b f h k r : PyData) (o : Option (List Item)), vs = [.ref l] ∧ SqL K H l [un, ufs, ub, uf, uh, uk, ur] ∧
  Dq K H un n ∧ FsAt K CF H ufs o ∧ Dq K H ub b ∧ Dq K H uf f ∧ Dq K H uh h ∧ Dq K H uk k ∧ Dq K H ur r ∧ Shrt n ∧ Shrt b ∧ Shrt k ∧ ∀ H', Same H H' → Q (.bl (kindRight n o b f h k r)) H'
section
variable {P : Program} {w : World} {K : PySem.W.Frag} {mg : Str → Option Value} {base : Heap}
theorem okH_KR {f f1 f2 CF : Addr} {fd fd1 fd2 : FuncData} (F : Fun K "_law_kind_right" "_law_kind_right" lKR f fd) (B : Bn mg) (O : OwnC K CF) (C : PlainC K CF ["name", "mode", "target", "default", "was"]) (g : mg "Field" = some (.ref CF))
    (NK : KnownH P w K mg base CX0 2 "_law_is_kind_name" ["_law_thing"] (spIsKind K) f1 fd1) (NF : KnownH P w K mg base CX0 2 "_law_is_field_name" ["_law_thing"] (spIsField K) f2 fd2) :
    FnH P w K mg base CX0 3 f fd ["_law_parts"] (spKR K CF) := by
  refine okH F scKR (fun vs H Q E h => ?_) (fun cdv A outer s H vs Q E pp hot hr h => ?_)
  · obtain ⟨l, un, ufs, ub, uf, uh, uk, ur, n, b, ff, hh, k, r, o, rfl, _⟩ := h
    rfl
  · obtain ⟨l, un, ufs, ub, uf, uh, uk, ur, n, b, ff, hh, k, r, o, rfl, hl, qn, qo, qb, qf, qh, qk, qr, sn, sb, sk, kk⟩ := h
    obtain ⟨tZ, hZ, qZ⟩ := krH_names (P := P) (w := w) (K := K) (mg := mg) (base := base) (f := f) (cdv := cdv) (A := A) (outer := outer) (s := s) (H0 := H) (Q := Q) (E := E) (pp := pp) B hot hr NK NF C
    refine ⟨_, pss_cons (ps_asg (pv 0) (Hw.pg_lstH (hotc hot) (pgs_cons (pg_name (i := 1) scKR.nd rfl (.inl rfl)) (pgs_cons (pg_name (i := 2) scKR.nd rfl (.inl rfl)) (pgs_cons (pg_name (i := 3) scKR.nd rfl (.inl rfl)) (pgs_cons (pg_name (i := 4) scKR.nd rfl (.inl rfl))
        (pgs_cons (pg_name (i := 5) scKR.nd rfl (.inl rfl)) (pgs_cons (pg_name (i := 6) scKR.nd rfl (.inl rfl)) (pgs_cons (pg_name (i := 7) scKR.nd rfl (.inl rfl)) pgs_nil)))))))))
      (pss_cons (ps_if (PW.pt (pw_or (pt_not (pt_val (pe_callH NK.ok hr (hotc hot) rfl NK.mg NK.kp NK.bi passH (pa_cons (pv 1) pa_nil))))
          (pw_or (pt_not (pt_val (pe_callB call_isiT (by rfl) B.isi boot_isi (pa_cons (pv 2) (pa_cons (pe_tup (pa_cons (pe_bltn (v := .ty "list") (by rfl) B.list PyProof.Rows.boot_list rfl) (pa_cons (pe_bltn (v := .ty "tuple") (by rfl) B.tuple boot_ttuple rfl) pa_nil))) pa_nil)))))
          (pw_or1 (pt_cmpR op_gt (pe_callB call_len_seq (by rfl) B.len PySem.boot_len (pa_cons (pv 2) pa_nil)) pe_int (nomark _))))))
        (pss_one (ps_ret pe_bl)) pss_nil)
      (pss_cons (ps_if (pt_cmpR op_gt (pe_callB call_len_seq (by rfl) B.len PySem.boot_len (pa_cons (Hw.pe_lcH (own := [("_law_field", 9)]) (g := gName 9) (te := tVar 9) (tt := tNot (tB (tCB (rIsi K) (tCons (tVar 9) (tCons (tC (.ref CF)) tNil))))) (hotc hot) scKR.nd (pi_seqVH (i := 2) (pv 2))
          (blkOk_by (N := nKR) (sc := defScope lKR) (by decide +kernel)) (fun _ _ _ _ _ => pg_name (i := 9) scKR.nd rfl (Or.inl rfl))
          (fun _ _ _ _ _ => pts_one (pt_not (pt_val (pe_callB call_isi (by rfl) B.isi boot_isi (pa_cons (pv 9) (pa_cons (pe_glob (v := .ref CF) (by rfl) g rfl) pa_nil))))))
          (fun _ _ _ _ _ => pv 9)) pa_nil)) pe_int (nomark _)) (pss_one (ps_ret pe_bl)) pss_nil)
      hZ)), ?_⟩
    have no : ∀ H', Same H H' → kindRight n o b ff hh k r = false → Q (.bl false) H' := fun H' s1 e => by
      have q := kk H' s1
      rw [e] at q
      exact q
    refine ⟨_, rfl, l, _, rfl, hl, rfl, _, _, rfl, _, _, rfl, _, _, rfl, _, _, rfl, _, _, rfl, _, _, rfl, _, _, rfl, rfl, ?_⟩
    refine ⟨_, rfl, un, n, rfl, qn, sn, fun H1 s1 => ⟨_, rfl, ?_⟩⟩
    cases kn : isKindName n with
    | false => exact no H1 s1 (by simp only [kindRight, namedOk, kn, Bool.false_and])
    | true =>
      refine ⟨_, rfl, by show 2 ≤ sizeLine; decide, fun T hT => ?_⟩
      have s2 : Same H1 (upd H1 T (.tup [.ty "list", .ty "tuple"])) := same_new hT
      have s12 := s1.trans s2
      have eT : upd H1 T (.tup [.ty "list", .ty "tuple"]) T = some (.tup [.ty "list", .ty "tuple"]) := upd_same
      generalize upd H1 T (.tup [.ty "list", .ty "tuple"]) = H2 at *
      cases o with
      | none =>
        obtain ⟨d, q, nos⟩ := qo
        refine ⟨ufs, T, [.ty "list", .ty "tuple"], _, [.type "list", .type "tuple"], _, rfl, eT, .cons (.ty _) (.cons (.ty _) .nil), (q.same s12).ty, kit_seq d, _, rfl, ?_⟩
        rw [nos]
        exact no H2 s12 (by simp only [kindRight, fieldsOk, Bool.false_and, Bool.and_false])
      | some its =>
        obtain ⟨a, us, rfl, sq, pr, few⟩ := qo
        have sq2 := sq.imp (sqL_same s12) (sqT_same s12)
        have pr2 : Paired (ItAt K CF H2) us its := L2.Paired.mapP pr fun _ _ z => z.same s12
        obtain ⟨dd, ty, yes⟩ : ∃ dd : PyData, TyX K H2 (.ref a) (.type (tyN dd)) ∧ (isLst dd || isTup dd) = true :=
          sq2.elim (fun z => ⟨.list [], SqL.ty z, rfl⟩) fun z => ⟨.tuple [], SqT.ty z, rfl⟩
        have ln : us.length = its.length := pr.length
        refine ⟨.ref a, T, [.ty "list", .ty "tuple"], _, [.type "list", .type "tuple"], _, rfl, eT, .cons (.ty _) (.cons (.ty _) .nil), ty, kit_seq dd, _, rfl, ?_⟩
        rw [yes]
        refine ⟨_, rfl, a, us, rfl, sq2, _, _, rfl, rfl, _, rfl, ?_⟩
        refine ite2 (fun q => ?_) (fun q => ?_)
        · have e3 : ¬ its.length ≤ 10 := by
            have := of_decide_eq_true q
            omega
          exact no H2 s12 (by simp only [kindRight, fieldsOk, areFields, decide_eq_false e3, Bool.false_and, Bool.and_false])
        · have e3 : its.length ≤ 10 := by
            have : ¬ ((10 : Int) < (us.length : Int)) := fun z => q (decide_eq_true z)
            omega
          refine ⟨a, us, rfl, sq2, fun J G wk hG D hD => ?_⟩
          refine lc_it wk (fun j H' => Same H2 H' ∧ ∃ ys : List V, H' D = some (.lst ys) ∧ ys.length ≤ j ∧ (ys.length = 0 ↔ (its.take j).all isF = true)) ⟨same_new hD, [], upd_same, Nat.le_refl _, by simp⟩ (fun j H' _ q => hG H' (.of q.1)) ?_ ?_
          · rintro j x H3 H4 hj ⟨sm, ys, eD, ly, iff⟩ ⟨rfl, hx⟩
            obtain ⟨i0, g1, g2⟩ := paired_get pr2 hx
            have tk : its.take (j + 1) = its.take j ++ [i0] := by
              rw [List.take_add_one, g1]
              rfl
            refine ⟨rfl, ?_⟩
            cases i0 with
            | f v =>
              obtain ⟨c, rfl, fb⟩ := g2
              obtain ⟨dx, tw, e, _⟩ := (fb.same sm).ex
              refine ⟨_, rfl, .ref c, .ref CF, .ref CF, .ref CF, true, rfl, .own CF, O.ty e, O.self, _, rfl, ?_⟩
              refine ⟨sm, ys, eD, by omega, ?_⟩
              rw [tk, List.all_append]
              simp [iff, isF]
            | d dt =>
              refine ⟨_, rfl, x, .ref CF, _, .ref CF, false, rfl, .own CF, (Dq.same sm g2).ty, O.other dt, _, rfl, ?_⟩
              refine ⟨_, rfl, ys, eD, ?_, fun c u q => ?_, ys ++ [x], upd_same, ?_, ?_⟩
              · rw [sizeLine_eq]
                omega
              · rw [upd_ne (ne_of_none q hD)]
                exact sm _ _ q
              · rw [List.length_append]
                show ys.length + 1 ≤ j + 1
                omega
              · rw [tk, List.all_append]
                simp [isF]
          · rintro H3 ⟨sm, ys, eD, ly, iff⟩
            rw [List.take_of_length_le (by omega)] at iff
            have s3 := s12.trans sm
            refine ⟨D, _, rfl, .inl (SqL.of eD), _, _, rfl, rfl, _, rfl, ?_⟩
            by_cases z : its.all isF = true
            · refine ite2 (fun q => absurd (iff.mpr z) (by have := of_decide_eq_true q; omega)) (fun _ => ?_)
              refine qZ un ub uf uh uk ur n b ff hh k r a us its _ _ _ _ H3 kn (qn.same s3) (qb.same s3) (qf.same s3) (qh.same s3) (qk.same s3) (qr.same s3) sn sb sk (sq.imp (sqL_same s3) (sqT_same s3)) (L2.Paired.mapP pr fun _ _ z => z.same s3) e3 z fun H' s' => kk H' (s3.trans s')
            · have e5 : its.all isF = false := by simpa using z
              refine ite2 (fun _ => ?_) (fun q => absurd (decide_eq_true (by have : ¬ ys.length = 0 := fun q => z (iff.mp q); omega)) q)
              exact no H3 s3 (by simp only [kindRight, fieldsOk, areFields, e5, Bool.and_false, Bool.false_and])
end
end Wp
set_option Elab.async false
set_option linter.all false
set_option maxRecDepth 100000
set_option maxHeartbeats 4000000
namespace Wp
open PySem PySem.Spec PyProof.Rows L2
/-! ## a kind's parts, asked where no exception is handled (made from K3c, K3d, K3e) -/
section
variable {P : Program} {w : World} {K : PySem.W.Frag} {mg : Str → Option Value} {base : Heap}
theorem kr_tail {f f2 : Addr} {fd2 : FuncData} {cdv : Value} {A : Around} {outer : List Env} {s : Shared} {H0 : Hp} {Q : VK} {E : XK} (B : Bn mg) (hr : Room 2 (A.deeper (envOfC "_law_kind_right" (defScope lKR) s.heap.objs.size f cdv)))
    (NF : Known P w K mg base CX0 2 "_law_is_field_name" ["_law_thing"] (spIsField K) f2 fd2) :
    ∃ t, PSs (cxOf CX0 P w K mg base nKR "_law_kind_right" (defScope lKR) f cdv A outer s H0 E).nox ((defBody lKR).drop 6) t ∧
      ∀ (ub uf uh uk ur : V) (b ff h k r : PyData) (y0 y1 y2 y8 y9 y10 : Option V) (H : Hp), Dq K H ub b → Dq K H uf ff → Dq K H uh h → Dq K H uk k → Dq K H ur r → Shrt k →
        (∀ H', Same H H' → Q (.bl ((isNon k || isFieldName k) && canBe b ff h k r)) H') →
        t { nx := fun _ H' => Q .non H', rt := Q } [y0, y1, y2, some ub, some uf, some uh, some uk, some ur, y8, y9, y10] H := by
  obtain ⟨tZ, hZ, qZ⟩ : ∃ t, PSs (cxOf CX0 P w K mg base nKR "_law_kind_right" (defScope lKR) f cdv A outer s H0 E).nox ((defBody lKR).drop 8) t ∧
      ∀ (ub uk : V) (x y z nb nk : Bool) (y0 y1 y2 y8 y9 y10 : Option V) (H : Hp), decide (ub = .non) = nb → decide (uk = .non) = nk → Q (.bl (!(!nb && (x || y)) && !(y && (x || !nk)) && (!nk || !z))) H →
        t { nx := fun _ H' => Q .non H', rt := Q } [y0, y1, y2, some ub, some (.bl x), some (.bl y), some uk, some (.bl z), y8, y9, y10] H := by
    refine ⟨_, pss_cons (ps_if (PW.pt (pw_and (pt_cmpR op_notN (pv 3) pe_non (nomark _)) (pw_and1 (PW.pt (pw_or (pt_val (pv 4)) (pw_or1 (pt_val (pv 5))))))))
        (pss_one (ps_ret pe_bl)) pss_nil)
      (pss_cons (ps_if (PW.pt (pw_and (pt_val (pv 5)) (pw_and1 (PW.pt (pw_or (pt_val (pv 4)) (pw_or1 (pt_cmpR op_notN (pv 6) pe_non (nomark _))))))))
        (pss_one (ps_ret pe_bl)) pss_nil)
      (pss_one (ps_ret (pe_or (pe_not (pv 7)) (pe_one (pe_cmpR op_notN (pv 6) pe_non (nomark _))))))), ?_⟩
    intro ub uk x y z nb nk y0 y1 y2 y8 y9 y10 H e1 e2 q
    refine if_pure (c := !nb && (x || y)) (fun R hR => ?_) ?_
    · refine ⟨_, rfl, rfl, _, rfl, ?_⟩
      rw [e1]
      revert hR
      cases nb with
      | true => exact fun hR => hR
      | false =>
        intro hR
        refine ⟨_, rfl, x, rfl, ?_⟩
        cases x with
        | true => exact hR
        | false => exact ⟨_, rfl, y, rfl, hR⟩
    cases c1 : (!nb && (x || y)) with
    | true =>
      rw [c1] at q
      exact q
    | false =>
      rw [c1] at q
      refine iteF ?_
      unfold tNext
      dsimp only
      refine if_pure (c := y && (x || !nk)) (fun R hR => ?_) ?_
      · refine ⟨_, rfl, y, rfl, ?_⟩
        cases y with
        | false => exact hR
        | true =>
          refine ⟨_, rfl, x, rfl, ?_⟩
          cases x with
          | true => exact hR
          | false =>
            refine ⟨_, rfl, rfl, _, rfl, ?_⟩
            rw [e2]
            exact hR
      cases c2 : (y && (x || !nk)) with
      | true =>
        rw [c2] at q
        exact q
      | false =>
        rw [c2] at q
        refine ⟨_, rfl, z, rfl, _, rfl, ?_⟩
        cases z with
        | false =>
          rw [show (!nk || !false) = true by simp] at q
          exact q
        | true =>
          refine ⟨_, rfl, rfl, ?_⟩
          rw [e2]
          rw [show (!nk || !true) = !nk by simp] at q
          exact q
  refine ⟨_, pss_cons (ps_if (PW.pt (pw_or (pt_not (pt_val (pe_callB call_isi (by rfl) B.isi boot_isi (pa_cons (pv 4) (pa_cons (pe_bltn (v := .ty "bool") (by rfl) B.bool boot_tbool rfl) pa_nil)))))
        (pw_or (pt_not (pt_val (pe_callB call_isi (by rfl) B.isi boot_isi (pa_cons (pv 5) (pa_cons (pe_bltn (v := .ty "bool") (by rfl) B.bool boot_tbool rfl) pa_nil)))))
        (pw_or1 (pt_not (pt_val (pe_callB call_isi (by rfl) B.isi boot_isi (pa_cons (pv 7) (pa_cons (pe_bltn (v := .ty "bool") (by rfl) B.bool boot_tbool rfl) pa_nil)))))))))
      (pss_one (ps_ret pe_bl)) pss_nil)
    (pss_cons (ps_if (PW.pt (pw_and (pt_cmpR op_notN (pv 6) pe_non (nomark _)) (pw_and1 (pt_not (pt_val (pe_call NF.ok hr rfl NF.mg NF.kp NF.bi .nil pass0 (pa_cons (pv 6) pa_nil)))))))
      (pss_one (ps_ret pe_bl)) pss_nil)
    hZ), ?_⟩
  intro ub uf uh uk ur b ff h k r y0 y1 y2 y8 y9 y10 H qb qf qh qk qr sk kk
  have fin : ∀ c H', Same H H' → ((isNon k || isFieldName k) && canBe b ff h k r) = c → Q (.bl c) H' := fun c H' s1 e => e ▸ kk H' s1
  have nob : (isBool ff && isBool h && isBool r) = false → Q (.bl false) H := fun e => fin false H (Same.refl _) (by simp only [canBe, e, Bool.false_and, Bool.and_false])
  refine ⟨_, rfl, uf, .ty "bool", _, .type "bool", _, rfl, .ty _, qf.ty, kit_bool ff, _, rfl, ?_⟩
  cases e1 : isBool ff with
  | false => exact nob (by rw [e1]; rfl)
  | true =>
    refine ⟨_, rfl, uh, .ty "bool", _, .type "bool", _, rfl, .ty _, qh.ty, kit_bool h, _, rfl, ?_⟩
    cases e2 : isBool h with
    | false => exact nob (by rw [e1, e2]; rfl)
    | true =>
      refine ⟨_, rfl, ur, .ty "bool", _, .type "bool", _, rfl, .ty _, qr.ty, kit_bool r, _, rfl, ?_⟩
      cases e3 : isBool r with
      | false => exact nob (by rw [e1, e2, e3]; rfl)
      | true =>
        obtain ⟨x, rfl, rfl⟩ := qf.bool_of e1
        obtain ⟨y, rfl, rfl⟩ := qh.bool_of e2
        obtain ⟨z, rfl, rfl⟩ := qr.bool_of e3
        have nb := qb.non
        have nk := qk.non
        have ec : canBe b (.bool x) (.bool y) k (.bool z) = (!(!isNon b && (x || y)) && !(y && (x || !isNon k)) && (!isNon k || !z)) := by
          simp only [canBe, isBool, tru, Bool.true_and]
        rw [ec] at kk
        refine iteF ?_
        unfold tNext
        dsimp only
        refine ⟨_, rfl, rfl, _, rfl, ?_⟩
        rw [nk]
        cases e4 : isNon k with
        | true =>
          rw [e4] at kk
          exact qZ ub uk x y z _ _ _ _ _ _ _ _ H nb (nk.trans e4) (kk H (Same.refl _))
        | false =>
          rw [e4] at kk
          refine ⟨_, rfl, uk, k, rfl, qk, sk, fun H1 s1 => ⟨_, rfl, ?_⟩⟩
          have k1 := kk H1 s1
          cases e5 : isFieldName k with
          | false =>
            rw [e5] at k1
            exact k1
          | true =>
            rw [e5] at k1
            exact qZ ub uk x y z _ _ _ _ _ _ _ _ H1 nb (nk.trans e4) k1
theorem kr_names {f f1 f2 CF : Addr} {fd1 fd2 : FuncData} {cdv : Value} {A : Around} {outer : List Env} {s : Shared} {H0 : Hp} {Q : VK} {E : XK} (B : Bn mg) (hr : Room 2 (A.deeper (envOfC "_law_kind_right" (defScope lKR) s.heap.objs.size f cdv)))
    (NK : Known P w K mg base CX0 2 "_law_is_kind_name" ["_law_thing"] (spIsKind K) f1 fd1) (NF : Known P w K mg base CX0 2 "_law_is_field_name" ["_law_thing"] (spIsField K) f2 fd2) (C : PlainC K CF ["name", "mode", "target", "default", "was"]) :
    ∃ t, PSs (cxOf CX0 P w K mg base nKR "_law_kind_right" (defScope lKR) f cdv A outer s H0 E).nox ((defBody lKR).drop 3) t ∧
      ∀ (un ub uf uh uk ur : V) (n b ff h k r : PyData) (a : Addr) (us : List V) (its : List Item) (y0 y8 y9 y10 : Option V) (H : Hp), isKindName n = true → Dq K H un n → Dq K H ub b → Dq K H uf ff → Dq K H uh h → Dq K H uk k → Dq K H ur r → Shrt n → Shrt b → Shrt k →
        (SqL K H a us ∨ SqT K H a us) → Paired (ItAt K CF H) us its → its.length ≤ 10 → its.all isF = true →
        (∀ H', Same H H' → Q (.bl (kindRight n (some its) b ff h k r)) H') →
        t { nx := fun _ H' => Q .non H', rt := Q } [y0, some un, some (.ref a), some ub, some uf, some uh, some uk, some ur, y8, y9, y10] H := by
  have hu : (A.deeper (envOfC "_law_kind_right" (defScope lKR) s.heap.objs.size f cdv)).units + 64 < cLine := by
    have := hr.un
    omega
  have hu1 : (A.deeper (envOfC "_law_kind_right" (defScope lKR) s.heap.objs.size f cdv)).units + 1 < cLine := by omega
  obtain ⟨tZ, hZ, qZ⟩ := kr_tail (P := P) (w := w) (K := K) (mg := mg) (base := base) (f := f) (cdv := cdv) (A := A) (outer := outer) (s := s) (H0 := H0) (Q := Q) (E := E) B hr NF
  refine ⟨_, pss_cons (ps_set (i := 8) scKR.nd rfl (.inr rfl) (pe_lc (own := [("_law_field", 9)]) (g := gName 9) (tt := tYes) (te := tFld K (tVar 9) "name") rfl scKR.nd (pi_seqV (i := 2) (pv 2))
        (blkOk_by (N := nKR) (sc := defScope lKR) (by decide +kernel)) (fun _ _ _ _ _ => pg_name (i := 9) scKR.nd rfl (Or.inl rfl)) (fun _ _ _ _ _ => pts_nil) (fun _ _ _ _ _ => pe_fld (pv 9) rfl)))
    (pss_cons (ps_if (pt_cmpR op_gt (pe_callB call_len_seq (by rfl) B.len PySem.boot_len (pa_cons (pe_lc (own := [("_law_one", 10)]) (g := gName 10) (te := tVar 10) (tt := tTest (tOp (rI0 fun i j => .bl (decide (j < i))) (tBM K "list" (rCntT K) (tVar 8) (tCons (tVar 10) tNil)) (tC (.int 1)))) rfl scKR.nd (pi_list (pv 8))
          (blkOk_by (N := nKR) (sc := defScope lKR) (by decide +kernel)) (fun _ _ _ _ _ => pg_name (i := 10) scKR.nd rfl (Or.inl rfl))
          (fun _ _ _ _ _ => pts_one (pt_cmpR op_gt (pe_bm PySem.F.plainAttrs_list PySem.F.slot_list_count PySem.F.type_list_count (mt_countT hu1) (pv 8) (pa_cons (pv 10) pa_nil)) pe_int (nomark _)))
          (fun _ _ _ _ _ => pv 10)) pa_nil)) pe_int (nomark _)) (pss_one (ps_ret pe_bl)) pss_nil)
    (pss_cons (ps_if (PW.pt (pw_and (pt_cmpR op_notN (pv 3) pe_non (nomark _)) (pw_and1 (PW.pt (pw_or (pt_not (pt_val (pe_call NK.ok hr rfl NK.mg NK.kp NK.bi .nil pass0 (pa_cons (pv 3) pa_nil)))) (pw_or1 (pt_cmpR (op_eqTxt hu) (pv 3) (pv 1) (nomark _))))))))
      (pss_one (ps_ret pe_bl)) pss_nil)
    hZ)), ?_⟩
  intro un ub uf uh uk ur n b ff h k r a us its y0 y8 y9 y10 H kn qn qb qf qh qk qr sn sb sk sq pr few allF kk
  have ln : us.length = its.length := pr.length
  refine ⟨a, us, rfl, sq, fun J G wk hG D0 hD0 => ?_⟩
  refine lc_grow (f := fun j => V.str (nameOf (its.getD j (.d .none)))) wk (by omega) (fun H' z => hG H' (.of z)) hD0 ?_ ?_
  · intro j x H1 R hx sm k1
    obtain ⟨i0, g1, g2⟩ := paired_get pr hx
    have r := k1 H1 (Same.refl _)
    rw [List.getD_eq_getElem?_getD, g1] at r
    cases i0 with
    | f v =>
      obtain ⟨c, rfl, fb⟩ := g2
      obtain ⟨dx, tw, e, _⟩ := (fb.same sm).ex
      exact ⟨_, rfl, c, CF, dx, _, _, rfl, e, C.cl, C.no _ (by simp), (lk_fs _ _ _ _ _).2.2.2.2, r⟩
    | d dt =>
      have := List.all_eq_true.mp allF _ (List.mem_of_getElem? g1)
      cases this
  · intro H2 s2 hL
    rw [show (List.range us.length).map (fun j => V.str (nameOf (its.getD j (.d .none)))) = (its.map nameOf).map V.str by rw [ln, List.map_map, ← range_map (V.str ∘ nameOf) (.d .none) its]; rfl] at hL
    have lz : (its.map nameOf).length = its.length := List.length_map ..
    generalize hzs : its.map nameOf = zs at hL lz
    refine ⟨_, rfl, D0, rfl, ⟨_, SqL.of hL⟩, fun D1 hD1 => ?_⟩
    have eA : areFields its = decide zs.Nodup := by
      simp only [areFields, allF, decide_eq_true few, Bool.true_and, hzs]
    refine lc_it (walk_list (xs := zs.map V.str)) (fun j H' => Same H2 H' ∧ H' D1 = some (.lst (((zs.take j).filter fun z => decide (1 < zs.count z)).map V.str))) ⟨same_new hD1, upd_same⟩ (fun j H' _ q => SqL.of (q.1 _ _ hL)) ?_ ?_
    · rintro j x H3 H4 hj ⟨sm, eD⟩ ⟨rfl, hx⟩
      obtain ⟨z, hz, rfl⟩ : ∃ z, zs[j]? = some z ∧ x = V.str z := by
        rw [List.getElem?_map] at hx
        cases e : zs[j]? with
        | none => rw [e] at hx; cases hx
        | some z => rw [e] at hx; exact ⟨z, rfl, (Option.some.inj hx).symm⟩
      have tk : zs.take (j + 1) = zs.take j ++ [z] := by
        rw [List.take_add_one, hz]
        rfl
      have lf := List.length_filter_le (fun z => decide (1 < zs.count z)) (zs.take j)
      rw [List.length_take] at lf
      refine ⟨rfl, ⟨_, rfl, .inl ⟨rfl, _, SqL.of (sm _ _ hL)⟩, _, rfl, D0, zs, z, rfl, rfl, SqL.of (sm _ _ hL), _, _, rfl, rfl, _, rfl, ?_⟩⟩
      have ed : decide ((1 : Int) < ((zs.count z : Nat) : Int)) = decide (1 < zs.count z) := by
        by_cases q : 1 < zs.count z
        · rw [decide_eq_true q]
          exact decide_eq_true (by omega)
        · rw [decide_eq_false q]
          exact decide_eq_false (by omega)
      rw [ed]
      cases e : decide (1 < zs.count z) with
      | true =>
        refine iteT ⟨_, rfl, _, eD, ?_, fun c o q => ?_, ?_⟩
        · rw [List.length_map, sizeLine_eq]
          omega
        · rw [upd_ne (ne_of_none q hD1)]
          exact sm _ _ q
        · rw [upd_same, tk, List.filter_append, List.map_append, List.filter_cons, e]
          rfl
      | false =>
        refine iteF ⟨sm, ?_⟩
        rw [eD, tk, List.filter_append, List.filter_cons, e]
        simp
    · rintro H3 ⟨sm, eD⟩
      rw [List.take_of_length_le (by rw [List.length_map]; exact Nat.le_refl _)] at eD
      have s3 := s2.trans sm
      refine ⟨D1, _, rfl, .inl (SqL.of eD), _, _, rfl, rfl, _, rfl, ?_⟩
      by_cases nd : zs.Nodup
      · rw [(none_twice zs).mpr nd]
        refine ite2 (fun q => (by cases q)) (fun _ => ?_)
        have eK : ∀ c, (basedOk n b && ((isNon k || isFieldName k) && canBe b ff h k r)) = c → kindRight n (some its) b ff h k r = c := by
          intro c e
          simp only [kindRight, namedOk, kn, fieldsOk, eA, decide_eq_true nd, Bool.true_and, Bool.and_true]
          rw [← e]
          cases basedOk n b <;> cases (isNon k || isFieldName k) <;> rfl
        have goZ : ∀ (H4 : Hp) (v8 : Option V), Same H H4 → basedOk n b = true → tZ { nx := fun _ H' => Q .non H', rt := Q } [y0, some un, some (.ref a), some ub, some uf, some uh, some uk, some ur, v8, y9, y10] H4 := by
          intro H4 v8 s4 eb
          refine qZ ub uf uh uk ur b ff h k r _ _ _ _ _ _ H4 (qb.same s4) (qf.same s4) (qh.same s4) (qk.same s4) (qr.same s4) sk fun H' s' => ?_
          have q := kk H' (s4.trans s')
          rw [eK _ rfl, eb, Bool.true_and] at q
          exact q
        have noZ : ∀ H4, Same H H4 → basedOk n b = false → Q (.bl false) H4 := by
          intro H4 s4 eb
          have q := kk H4 s4
          rw [eK _ rfl, eb, Bool.false_and] at q
          exact q
        refine ⟨_, rfl, rfl, _, rfl, ?_⟩
        rw [qb.non]
        cases e1 : isNon b with
        | true => exact goZ H3 _ s3 (by simp only [basedOk, e1, Bool.true_or])
        | false =>
          refine ⟨_, rfl, ub, b, rfl, qb.same s3, sb, fun H4 s4 => ⟨_, rfl, ?_⟩⟩
          have s34 := s3.trans s4
          cases e2 : isKindName b with
          | false => exact noZ H4 s34 (by simp only [basedOk, e1, e2, Bool.false_or, Bool.false_and])
          | true =>
            obtain ⟨z, rfl⟩ : ∃ z, b = .str z := by
              cases b <;> first | exact ⟨_, rfl⟩ | exact absurd e2 (by simp [isKindName])
            obtain ⟨x, rfl⟩ : ∃ x, n = .str x := by
              cases n <;> first | exact ⟨_, rfl⟩ | exact absurd kn (by simp [isKindName])
            obtain rfl := qb.str_of
            obtain rfl := qn.str_of
            have sx : SeqAt.shaped (.str x) = true := by
              cases qn with
              | dat _ sh => exact sh
            refine ⟨_, rfl, _, rfl, .str z, x, rfl, sx, qb.same s34, _, rfl, ?_⟩
            have eb : basedOk (.str x) (.str z) = !decide (z = x) := by
              simp only [basedOk, e1, e2, isTxt, Bool.false_or, Bool.true_and]
              by_cases q : z = x
              · rw [q]
              · rw [decide_eq_false q, decide_eq_false fun w => q w.symm]
            show (if isTxt (.str z) x = true then _ else _)
            refine ite2 (fun q => ?_) (fun q => ?_)
            · exact noZ H4 s34 (by rw [eb, show decide (z = x) = true from q]; rfl)
            · exact goZ H4 _ s34 (by rw [eb]; simpa [isTxt] using q)
      · have ne : ¬ ((zs.filter fun z => decide (1 < zs.count z)).map V.str).length = 0 := by
          rw [List.length_map]
          intro q
          exact nd ((none_twice zs).mp (List.eq_nil_of_length_eq_zero q))
        refine ite2 (fun _ => ?_) (fun q => absurd (decide_eq_true (by omega)) q)
        have q := kk H3 s3
        rw [show kindRight n (some its) b ff h k r = false by simp only [kindRight, fieldsOk, eA, decide_eq_false nd, Bool.false_and, Bool.and_false]] at q
        exact q
theorem ok_KR {f f1 f2 CF : Addr} {fd fd1 fd2 : FuncData} (F : Fun K "_law_kind_right" "_law_kind_right" lKR f fd) (B : Bn mg) (O : OwnC K CF) (C : PlainC K CF ["name", "mode", "target", "default", "was"]) (g : mg "Field" = some (.ref CF))
    (NK : Known P w K mg base CX0 2 "_law_is_kind_name" ["_law_thing"] (spIsKind K) f1 fd1) (NF : Known P w K mg base CX0 2 "_law_is_field_name" ["_law_thing"] (spIsField K) f2 fd2) :
    FnOk P w K mg base CX0 3 f fd ["_law_parts"] (spKR K CF) := by
  refine F.ok scKR (fun vs H Q E h => ?_) (fun cdv A outer s H vs Q E hr h => ?_)
  · obtain ⟨l, un, ufs, ub, uf, uh, uk, ur, n, b, ff, hh, k, r, o, rfl, _⟩ := h
    rfl
  · obtain ⟨l, un, ufs, ub, uf, uh, uk, ur, n, b, ff, hh, k, r, o, rfl, hl, qn, qo, qb, qf, qh, qk, qr, sn, sb, sk, kk⟩ := h
    obtain ⟨tZ, hZ, qZ⟩ := kr_names (P := P) (w := w) (K := K) (mg := mg) (base := base) (f := f) (cdv := cdv) (A := A) (outer := outer) (s := s) (H0 := H) (Q := Q) (E := E) B hr NK NF C
    refine ⟨_, pss_cons (ps_asg (pv 0) (pg_lst rfl (pgs_cons (pg_name (i := 1) scKR.nd rfl (.inl rfl)) (pgs_cons (pg_name (i := 2) scKR.nd rfl (.inl rfl)) (pgs_cons (pg_name (i := 3) scKR.nd rfl (.inl rfl)) (pgs_cons (pg_name (i := 4) scKR.nd rfl (.inl rfl))
        (pgs_cons (pg_name (i := 5) scKR.nd rfl (.inl rfl)) (pgs_cons (pg_name (i := 6) scKR.nd rfl (.inl rfl)) (pgs_cons (pg_name (i := 7) scKR.nd rfl (.inl rfl)) pgs_nil)))))))))
      (pss_cons (ps_if (PW.pt (pw_or (pt_not (pt_val (pe_call NK.ok hr rfl NK.mg NK.kp NK.bi .nil pass0 (pa_cons (pv 1) pa_nil))))
          (pw_or (pt_not (pt_val (pe_callB call_isiT (by rfl) B.isi boot_isi (pa_cons (pv 2) (pa_cons (pe_tup (pa_cons (pe_bltn (v := .ty "list") (by rfl) B.list PyProof.Rows.boot_list rfl) (pa_cons (pe_bltn (v := .ty "tuple") (by rfl) B.tuple boot_ttuple rfl) pa_nil))) pa_nil)))))
          (pw_or1 (pt_cmpR op_gt (pe_callB call_len_seq (by rfl) B.len PySem.boot_len (pa_cons (pv 2) pa_nil)) pe_int (nomark _))))))
        (pss_one (ps_ret pe_bl)) pss_nil)
      (pss_cons (ps_if (pt_cmpR op_gt (pe_callB call_len_seq (by rfl) B.len PySem.boot_len (pa_cons (pe_lc (own := [("_law_field", 9)]) (g := gName 9) (te := tVar 9) (tt := tNot (tB (tCB (rIsi K) (tCons (tVar 9) (tCons (tC (.ref CF)) tNil))))) rfl scKR.nd (pi_seqV (i := 2) (pv 2))
          (blkOk_by (N := nKR) (sc := defScope lKR) (by decide +kernel)) (fun _ _ _ _ _ => pg_name (i := 9) scKR.nd rfl (Or.inl rfl))
          (fun _ _ _ _ _ => pts_one (pt_not (pt_val (pe_callB call_isi (by rfl) B.isi boot_isi (pa_cons (pv 9) (pa_cons (pe_glob (v := .ref CF) (by rfl) g rfl) pa_nil))))))
          (fun _ _ _ _ _ => pv 9)) pa_nil)) pe_int (nomark _)) (pss_one (ps_ret pe_bl)) pss_nil)
      hZ)), ?_⟩
    have no : ∀ H', Same H H' → kindRight n o b ff hh k r = false → Q (.bl false) H' := fun H' s1 e => by
      have q := kk H' s1
      rw [e] at q
      exact q
    refine ⟨_, rfl, l, _, rfl, hl, rfl, _, _, rfl, _, _, rfl, _, _, rfl, _, _, rfl, _, _, rfl, _, _, rfl, _, _, rfl, rfl, ?_⟩
    refine ⟨_, rfl, un, n, rfl, qn, sn, fun H1 s1 => ⟨_, rfl, ?_⟩⟩
    cases kn : isKindName n with
    | false => exact no H1 s1 (by simp only [kindRight, namedOk, kn, Bool.false_and])
    | true =>
      refine ⟨_, rfl, by show 2 ≤ sizeLine; decide, fun T hT => ?_⟩
      have s2 : Same H1 (upd H1 T (.tup [.ty "list", .ty "tuple"])) := same_new hT
      have s12 := s1.trans s2
      have eT : upd H1 T (.tup [.ty "list", .ty "tuple"]) T = some (.tup [.ty "list", .ty "tuple"]) := upd_same
      generalize upd H1 T (.tup [.ty "list", .ty "tuple"]) = H2 at *
      cases o with
      | none =>
        obtain ⟨d, q, nos⟩ := qo
        refine ⟨ufs, T, [.ty "list", .ty "tuple"], _, [.type "list", .type "tuple"], _, rfl, eT, .cons (.ty _) (.cons (.ty _) .nil), (q.same s12).ty, kit_seq d, _, rfl, ?_⟩
        rw [nos]
        exact no H2 s12 (by simp only [kindRight, fieldsOk, Bool.false_and, Bool.and_false])
      | some its =>
        obtain ⟨a, us, rfl, sq, pr, few⟩ := qo
        have sq2 := sq.imp (sqL_same s12) (sqT_same s12)
        have pr2 : Paired (ItAt K CF H2) us its := L2.Paired.mapP pr fun _ _ z => z.same s12
        obtain ⟨dd, ty, yes⟩ : ∃ dd : PyData, TyX K H2 (.ref a) (.type (tyN dd)) ∧ (isLst dd || isTup dd) = true :=
          sq2.elim (fun z => ⟨.list [], SqL.ty z, rfl⟩) fun z => ⟨.tuple [], SqT.ty z, rfl⟩
        have ln : us.length = its.length := pr.length
        refine ⟨.ref a, T, [.ty "list", .ty "tuple"], _, [.type "list", .type "tuple"], _, rfl, eT, .cons (.ty _) (.cons (.ty _) .nil), ty, kit_seq dd, _, rfl, ?_⟩
        rw [yes]
        refine ⟨_, rfl, a, us, rfl, sq2, _, _, rfl, rfl, _, rfl, ?_⟩
        refine ite2 (fun q => ?_) (fun q => ?_)
        · have e3 : ¬ its.length ≤ 10 := by
            have := of_decide_eq_true q
            omega
          exact no H2 s12 (by simp only [kindRight, fieldsOk, areFields, decide_eq_false e3, Bool.false_and, Bool.and_false])
        · have e3 : its.length ≤ 10 := by
            have : ¬ ((10 : Int) < (us.length : Int)) := fun z => q (decide_eq_true z)
            omega
          refine ⟨a, us, rfl, sq2, fun J G wk hG D hD => ?_⟩
          refine lc_it wk (fun j H' => Same H2 H' ∧ ∃ ys : List V, H' D = some (.lst ys) ∧ ys.length ≤ j ∧ (ys.length = 0 ↔ (its.take j).all isF = true)) ⟨same_new hD, [], upd_same, Nat.le_refl _, by simp⟩ (fun j H' _ q => hG H' (.of q.1)) ?_ ?_
          · rintro j x H3 H4 hj ⟨sm, ys, eD, ly, iff⟩ ⟨rfl, hx⟩
            obtain ⟨i0, g1, g2⟩ := paired_get pr2 hx
            have tk : its.take (j + 1) = its.take j ++ [i0] := by
              rw [List.take_add_one, g1]
              rfl
            refine ⟨rfl, ?_⟩
            cases i0 with
            | f v =>
              obtain ⟨c, rfl, fb⟩ := g2
              obtain ⟨dx, tw, e, _⟩ := (fb.same sm).ex
              refine ⟨_, rfl, .ref c, .ref CF, .ref CF, .ref CF, true, rfl, .own CF, O.ty e, O.self, _, rfl, ?_⟩
              refine ⟨sm, ys, eD, by omega, ?_⟩
              rw [tk, List.all_append]
              simp [iff, isF]
            | d dt =>
              refine ⟨_, rfl, x, .ref CF, _, .ref CF, false, rfl, .own CF, (Dq.same sm g2).ty, O.other dt, _, rfl, ?_⟩
              refine ⟨_, rfl, ys, eD, ?_, fun c u q => ?_, ys ++ [x], upd_same, ?_, ?_⟩
              · rw [sizeLine_eq]
                omega
              · rw [upd_ne (ne_of_none q hD)]
                exact sm _ _ q
              · rw [List.length_append]
                show ys.length + 1 ≤ j + 1
                omega
              · rw [tk, List.all_append]
                simp [isF]
          · rintro H3 ⟨sm, ys, eD, ly, iff⟩
            rw [List.take_of_length_le (by omega)] at iff
            have s3 := s12.trans sm
            refine ⟨D, _, rfl, .inl (SqL.of eD), _, _, rfl, rfl, _, rfl, ?_⟩
            by_cases z : its.all isF = true
            · refine ite2 (fun q => absurd (iff.mpr z) (by have := of_decide_eq_true q; omega)) (fun _ => ?_)
              refine qZ un ub uf uh uk ur n b ff hh k r a us its _ _ _ _ H3 kn (qn.same s3) (qb.same s3) (qf.same s3) (qh.same s3) (qk.same s3) (qr.same s3) sn sb sk (sq.imp (sqL_same s3) (sqT_same s3)) (L2.Paired.mapP pr fun _ _ z => z.same s3) e3 z fun H' s' => kk H' (s3.trans s')
            · have e5 : its.all isF = false := by simpa using z
              refine ite2 (fun _ => ?_) (fun q => absurd (decide_eq_true (by have : ¬ ys.length = 0 := fun q => z (iff.mp q); omega)) q)
              exact no H3 s3 (by simp only [kindRight, fieldsOk, areFields, e5, Bool.and_false, Bool.false_and])
end
end Wp
set_option Elab.async false
set_option linter.all false
set_option maxRecDepth 100000
set_option maxHeartbeats 4000000
namespace Wp
open PySem PySem.Spec PyProof.Rows L2
/-! ## a field's parts, asked -/
abbrev lFR : Stmt := top 49
abbrev nFR : List Str := ["_law_parts", "_law_name", "_law_mode", "_law_own_target", "_law_own_default", "_law_own_was"]
def spFR (K : PySem.W.Frag) : Sp := fun vs H Q _ => ∃ (l : Addr) (un um ut ud uw : V) (n m t d w : PyData), vs = [.ref l] ∧ SqL K H l [un, um, ut, ud, uw] ∧ Dq K H un n ∧ Dq K H um m ∧ Dq K H ut t ∧ Dq K H ud d ∧ Dq K H uw w ∧ Shrt n ∧ Shrt t ∧ ShrtS w ∧ PlnD t ∧ Sz t ∧
  ∀ H', Same H H' → Q (.bl (fieldRight n m t d w)) H'
structure KnownQ (P : Program) (w : World) (K : PySem.W.Frag) (mg : Str → Option Value) (base : Heap) (k : Nat) (x : Str) (ps : List Str) (sp : Sp) (f : Addr) (fd : FuncData) : Prop where
  ok : GOk P w K mg base CX0 k f fd ps sp
  mg : mg x = some (.ref f)
  kp : PySem.W.keepIn K (.ref f) = true
  bi : Binds K fd ps []
theorem sz_any : Sz (.str "any") := ⟨rfl, by simp [PyData.depth], by decide +kernel⟩
theorem eqV_str (a z : Str) : eqV (.str a) (.str z) = isTxt (.str z) a := by
  show (a == z) = decide (z = a)
  rw [str_beq_decide]
  by_cases e : a = z
  · rw [e]
  · rw [decide_eq_false e, decide_eq_false fun q => e q.symm]
theorem modes (z : Str) : inV (.str z) [.str "mark", .str "link", .str "list"] = (isTxt (.str z) "mark" || (isTxt (.str z) "link" || isTxt (.str z) "list")) := by
  simp only [inV, List.any_cons, List.any_nil, eqV_str, Bool.or_false]
theorem dec_txt (z y : Str) : decide (V.str z = V.str y) = isTxt (.str z) y := by
  show _ = decide (z = y)
  by_cases e : z = y
  · rw [e]
    simp
  · rw [decide_eq_false e]
    exact decide_eq_false fun q => e (by injection q)
section
variable {P : Program} {w : World} {K : PySem.W.Frag} {mg : Str → Option Value} {base : Heap}
theorem scFR : FnScope nFR ["_law_parts"] (defScope lFR) := ⟨rfl, rfl, rfl, by decide +kernel, rfl, by decide +kernel, by decide +kernel⟩
theorem ok_FR {f f1 f2 f3 f4 f5 : Addr} {fd fd1 fd2 fd3 fd4 fd5 : FuncData} (F : Fun K "_law_field_right" "_law_field_right" lFR f fd) (B : Bn mg) (NF : Known P w K mg base CX0 2 "_law_is_field_name" ["_law_thing"] (spIsField K) f1 fd1)
    (IN : Known P w K mg base CX0 1 "_law_is_integer" ["_law_thing"] (spIsInt K) f2 fd2) (ER : Known P w K mg base CX0 3 "_law_elder_right" ["_law_name", "_law_own_was"] (spWas K) f3 fd3) (NK : Known P w K mg base CX0 2 "_law_is_kind_name" ["_law_thing"] (spIsKind K) f4 fd4)
    (SM : KnownQ P w K mg base 1 "_law_same" ["_law_one", "_law_other"] (spSameQ K) f5 fd5) : GOk P w K mg base CX0 4 f fd ["_law_parts"] (spFR K) := by
  refine gok_of F scFR (fun vs H Q E h => ?_) (fun cdv A outer s H vs Q E hG hr h => ?_)
  · obtain ⟨l, un, um, ut, ud, uw, n, m, t, d, wd, rfl, _⟩ := h
    rfl
  · obtain ⟨l, un, um, ut, ud, uw, n, m, t, d, wd, rfl, hl, qn, qm, qt, qd, qw, sn, st, sw, pt, zt, kk⟩ := h
    have hr2 := hr.mono (j := 2) (by decide)
    have hr1 := hr.mono (j := 1) (by decide)
    refine ⟨_, pss_cons (ps_asg (pv 0) (pg_lst rfl (pgs_cons (pg_name (i := 1) scFR.nd rfl (.inl rfl)) (pgs_cons (pg_name (i := 2) scFR.nd rfl (.inl rfl)) (pgs_cons (pg_name (i := 3) scFR.nd rfl (.inl rfl)) (pgs_cons (pg_name (i := 4) scFR.nd rfl (.inl rfl))
        (pgs_cons (pg_name (i := 5) scFR.nd rfl (.inl rfl)) pgs_nil)))))))
      (pss_cons (ps_if (PW.pt (pw_or (pt_not (pt_val (pe_call NF.ok hr2 rfl NF.mg NF.kp NF.bi .nil pass0 (pa_cons (pv 1) pa_nil)))) (pw_or (pt_not (pt_val (pe_call IN.ok hr1 rfl IN.mg IN.kp IN.bi .nil pass0 (pa_cons (pv 4) pa_nil))))
          (pw_or1 (pt_not (pt_val (pe_call ER.ok hr rfl ER.mg ER.kp ER.bi .nil pass0 (pa_cons (pv 1) (pa_cons (pv 5) pa_nil)))))))))
        (pss_one (ps_ret pe_bl)) pss_nil)
      (pss_cons (ps_if (PW.pt (pw_or (pt_not (pt_val (pe_callB call_isi (by rfl) B.isi boot_isi (pa_cons (pv 2) (pa_cons (pe_bltn (v := .ty "str") (by rfl) B.str boot_tstr rfl) pa_nil)))))
          (pw_or1 (pt_cmpR op_notIn_seq (pv 2) (pe_lst (pa_cons pe_str (pa_cons pe_str (pa_cons pe_str pa_nil)))) (by rfl)))))
        (pss_one (ps_ret pe_bl)) pss_nil)
      (pss_cons (ps_if (pt_cmpR op_eq (pv 2) pe_str (nomark _))
        (pss_one (ps_ret (pe_and (pe_cmpR op_isN (pv 3) pe_non (nomark _)) (pe_one (pe_chain op_lt op_lt (pe_un un_neg (pe_op op_pow pe_int pe_int)) (pv 4) (pe_op op_pow pe_int pe_int)))))) pss_nil)
      (pss_one (ps_ret (pe_and (pe_cmpR op_eq (pv 4) pe_int (nomark _)) (pe_one (pe_or (pe_call NK.ok hr2 rfl NK.mg NK.kp NK.bi .nil pass0 (pa_cons (pv 3) pa_nil))
        (pe_one (pe_callG hG SM.ok hr1 rfl SM.mg SM.kp SM.bi pass0 (pa_cons (pv 3) (pa_cons pe_str pa_nil)))))))))))), ?_⟩
    have no : ∀ H', Same H H' → fieldRight n m t d wd = false → Q (.bl false) H' := fun H' s1 e => by
      have q := kk H' s1
      rw [e] at q
      exact q
    refine ⟨_, rfl, l, _, rfl, hl, rfl, _, _, rfl, _, _, rfl, _, _, rfl, _, _, rfl, _, _, rfl, rfl, ?_⟩
    refine ⟨_, rfl, un, n, rfl, qn, sn, fun H1 s1 => ⟨_, rfl, ?_⟩⟩
    cases e1 : isFieldName n with
    | false => exact no H1 s1 (by simp only [fieldRight, e1, Bool.false_and])
    | true =>
      refine ⟨_, rfl, ud, d, rfl, qd.same s1, _, rfl, ?_⟩
      cases e2 : isInt d with
      | false =>
        refine no H1 s1 ?_
        have z1 : isDefault d = false := by cases d <;> first | rfl | cases e2
        have z2 : isZero d = false := by cases d <;> first | rfl | cases e2
        have z3 : fitsMode m t d = false := by
          unfold fitsMode
          rw [z1, z2]
          split <;> simp
        simp only [fieldRight, z3, Bool.and_false, Bool.false_and]
      | true =>
        obtain ⟨i, rfl⟩ : ∃ i, d = .int i := by
          cases d <;> first | exact ⟨_, rfl⟩ | cases e2
        obtain ⟨x, rfl⟩ : ∃ x, n = .str x := by
          cases n <;> first | exact ⟨_, rfl⟩ | exact absurd e1 (by simp [isFieldName, isWordN])
        obtain rfl := qn.str_of
        refine ⟨_, rfl, _, rfl, x, uw, wd, rfl, qw.same s1, sw, fun H2 s2 => ⟨_, rfl, ?_⟩⟩
        have s12 := s1.trans s2
        cases e3 : wasRight x wd with
        | false => exact no H2 s12 (by simp only [fieldRight, e3, Bool.and_false])
        | true =>
          have eF : fieldRight (.str x) m t (.int i) wd = fitsMode m t (.int i) := by
            simp only [fieldRight, e1, e3, Bool.true_and, Bool.and_true]
          refine ⟨_, rfl, um, .ty "str", _, .type "str", _, rfl, .ty _, (qm.same s12).ty, kit_str m, _, rfl, ?_⟩
          have s3 : ∀ {H3 : Hp}, Same H2 H3 → Same H H3 := fun z => s12.trans z
          cases e4 : isStr m with
          | false =>
            refine no H2 s12 ?_
            have z : ∀ q, isTxt m q = false := fun q => by cases m <;> first | rfl | cases e4
            rw [eF]
            simp [fitsMode, z]
          | true =>
            obtain ⟨z, rfl⟩ : ∃ z, m = .str z := by
              cases m <;> first | exact ⟨_, rfl⟩ | cases e4
            obtain rfl := qm.str_of
            refine ⟨_, rfl, by show 3 ≤ sizeLine; decide, fun L hL => ⟨L, _, rfl, .inl (SqL.of upd_same), rfl, rfl, _, rfl, ?_⟩⟩
            have s4 := s3 (same_new (o := HO.lst [.str "mark", .str "link", .str "list"]) hL)
            generalize upd H2 L (.lst [.str "mark", .str "link", .str "list"]) = H4 at s4 ⊢
            rw [modes]
            obtain rfl : ud = .int i := by
              cases qd with
              | dat q _ =>
                cases q
                rfl
            cases m1 : isTxt (.str z) "mark" with
            | true =>
              refine ite2 (fun q => (by cases q)) (fun _ => ?_)
              refine ⟨_, rfl, rfl, _, rfl, ?_⟩
              rw [dec_txt, m1]
              refine iteT ?_
              have eM : fitsMode (.str z) t (.int i) = (isNon t && isDefault (.int i)) := by
                simp only [fitsMode, m1, if_true]
              refine ⟨_, rfl, rfl, _, rfl, ?_⟩
              rw [qt.non]
              cases e5 : isNon t with
              | false => exact no H4 s4 (by rw [eF, eM, e5]; rfl)
              | true =>
                have pw : CPow 10 12 := ⟨by decide, by decide, by decide⟩
                have e12 : ((10 : Int) ^ (12 : Int).toNat) = 1000000000000 := by decide
                refine ⟨_, _, rfl, rfl, pw, _, rfl, ?_⟩
                have q := kk H4 s4
                rw [eF, eM, e5, Bool.true_and] at q
                refine ⟨_, rfl, _, _, rfl, rfl, _, rfl, ?_⟩
                rw [e12]
                refine ite2 (fun h1 => ?_) (fun h1 => ?_)
                · refine ⟨_, _, rfl, rfl, pw, _, _, rfl, rfl, ?_⟩
                  have e : isDefault (.int i) = decide (i < 10 ^ (12 : Int).toNat) := by
                    rw [e12]
                    simp only [isDefault]
                    rw [decide_eq_true (p := -1000000000000 < i) (of_decide_eq_true h1), Bool.true_and]
                  rw [e] at q
                  exact q
                · have e : isDefault (.int i) = false := by
                    simp only [isDefault]
                    rw [decide_eq_false (p := -1000000000000 < i) (fun z => h1 (decide_eq_true z)), Bool.false_and]
                  rw [e] at q
                  exact q
            | false =>
              cases m2 : (isTxt (.str z) "link" || isTxt (.str z) "list") with
              | false => exact no H4 s4 (by rw [eF]; simp only [fitsMode, m1, m2, Bool.false_and]; rfl)
              | true =>
                refine ite2 (fun q => (by cases q)) (fun _ => ?_)
                refine ⟨_, rfl, rfl, _, rfl, ?_⟩
                rw [dec_txt, m1]
                refine iteF ?_
                have eM : fitsMode (.str z) t (.int i) = (isZero (.int i) && (isTxt t "any" || isKindName t)) := by
                  simp only [fitsMode, m1, m2, Bool.true_and]
                  rfl
                have q := fun H5 s5 => kk H5 s5
                rw [eF, eM] at q
                refine ⟨_, rfl, rfl, _, rfl, ?_⟩
                have ez : decide (V.int i = V.int 0) = isZero (.int i) := by
                  simp [isZero]
                rw [ez]
                cases e6 : isZero (.int i) with
                | false =>
                  have q4 := q H4 s4
                  rw [e6] at q4
                  exact q4
                | true =>
                  rw [e6] at q
                  refine ⟨_, rfl, ut, t, rfl, qt.same s4, st, fun H5 s5 => ⟨_, rfl, ?_⟩⟩
                  have q5 := q H5 (s4.trans s5)
                  cases e7 : isKindName t with
                  | true =>
                    rw [e7, Bool.or_true] at q5
                    exact q5
                  | false =>
                    rw [e7, Bool.or_false] at q5
                    refine ⟨_, rfl, ut, _, t, .str "any", rfl, .q (qt.same (s4.trans s5)), .q (.dat (.str _) sh_any), zt, sz_any, ?_⟩
                    rw [shown_txt pt any_pln]
                    exact q5
end
end Wp
set_option Elab.async false
set_option linter.all false
set_option maxRecDepth 100000
set_option maxHeartbeats 4000000
namespace Wp
open PySem PySem.Spec PyProof.Rows L2
/-! ## what is due of a field -/
abbrev lFD : Stmt := top 51
/-- five parts in the list at l -/
structure Pts5 (K : PySem.W.Frag) (H : Hp) (l : Addr) (un um ut ud uw : V) (n m t d w : PyData) : Prop where
  at_ : SqL K H l [un, um, ut, ud, uw]
  qn : Dq K H un n
  qm : Dq K H um m
  qt : Dq K H ut t
  qd : Dq K H ud d
  qw : Dq K H uw w
  sn : Shrt n
  st : Shrt t
  sw : ShrtS w
  pt : PlnD t
  zt : Sz t
theorem Pts5.fr {K : PySem.W.Frag} {H : Hp} {l : Addr} {un um ut ud uw : V} {n m t d w : PyData} {Q : VK} {E : XK} (p : Pts5 K H l un um ut ud uw n m t d w) (k : ∀ H', Same H H' → Q (.bl (fieldRight n m t d w)) H') : spFR K [.ref l] H Q E :=
  ⟨l, un, um, ut, ud, uw, n, m, t, d, w, rfl, p.at_, p.qn, p.qm, p.qt, p.qd, p.qw, p.sn, p.st, p.sw, p.pt, p.zt, k⟩
theorem Pts5.same {K : PySem.W.Frag} {H H' : Hp} {l : Addr} {un um ut ud uw : V} {n m t d w : PyData} (p : Pts5 K H l un um ut ud uw n m t d w) (s : Same H H') : Pts5 K H' l un um ut ud uw n m t d w :=
  ⟨sqL_same s p.at_, p.qn.same s, p.qm.same s, p.qt.same s, p.qd.same s, p.qw.same s, p.sn, p.st, p.sw, p.pt, p.zt⟩
def spFD (K : PySem.W.Frag) : Sp := fun vs H Q _ => ∃ (l : Addr) (un um ut ud uw : V) (n m t d w : PyData), vs = [.ref l] ∧ Pts5 K H l un um ut ud uw n m t d w ∧
  (fieldRight n m t d w = false → ∀ (H' : Hp) (a : Addr), Same H H' → H' a = some (.tup [.str "bad", un]) → Q (.ref a) H') ∧
  (fieldRight n m t d w = true → ∀ (H' : Hp) (a T : Addr), Same H H' → H' a = some (.lst [un, um, ut, ud, .ref T]) → SqT K H' T ((txtsOf w).map V.str) → Q (.ref a) H')
section
variable {P : Program} {w : World} {K : PySem.W.Frag} {mg : Str → Option Value} {base : Heap}
theorem scFD : FnScope ["_law_parts"] ["_law_parts"] (defScope lFD) := ⟨rfl, rfl, rfl, by decide +kernel, rfl, by decide +kernel, by decide +kernel⟩
theorem right_was {n m t d wd : PyData} (h : fieldRight n m t d wd = true) : ∃ ds, seqOf wd = some ds ∧ ds.all isFieldName = true := by
  cases n with
  | str x =>
    have e3 : wasRight x wd = true := by
      simp only [fieldRight, Bool.and_eq_true] at h
      exact h.2
    cases e : seqOf wd with
    | none =>
      simp only [wasRight, e] at e3
      cases e3
    | some ds =>
      simp only [wasRight, e, Bool.and_eq_true] at e3
      exact ⟨ds, rfl, e3.1.1.2⟩
  | _ => simp [fieldRight] at h
theorem ok_FD {f f1 : Addr} {fd fd1 : FuncData} (F : Fun K "_law_field_due" "_law_field_due" lFD f fd) (B : Bn mg) (FR : KnownQ P w K mg base 4 "_law_field_right" ["_law_parts"] (spFR K) f1 fd1) : GOk P w K mg base CX0 5 f fd ["_law_parts"] (spFD K) := by
  refine gok_of F scFD (fun vs H Q E h => ?_) (fun cdv A outer s H vs Q E hG hr h => ?_)
  · obtain ⟨l, un, um, ut, ud, uw, n, m, t, d, wd, rfl, _⟩ := h
    rfl
  · obtain ⟨l, un, um, ut, ud, uw, n, m, t, d, wd, rfl, p, k1, k2⟩ := h
    refine ⟨_, pss_cons (ps_if (pt_not (pt_val (pe_callG hG FR.ok hr rfl FR.mg FR.kp FR.bi pass0 (pa_cons (pv 0) pa_nil))))
        (pss_one (ps_ret (pe_tup (pa_cons pe_str (pa_cons (pe_ix ix_list (pv 0) pe_int (fun _ _ => rfl)) pa_nil))))) pss_nil)
      (pss_one (ps_ret (pe_lst (pa_cons (pe_ix ix_list (pv 0) pe_int (fun _ _ => rfl)) (pa_cons (pe_ix ix_list (pv 0) pe_int (fun _ _ => rfl)) (pa_cons (pe_ix ix_list (pv 0) pe_int (fun _ _ => rfl)) (pa_cons (pe_ix ix_list (pv 0) pe_int (fun _ _ => rfl))
        (pa_cons (pe_callTy call_tuple_of (by rfl) B.tuple boot_ttuple (pa_cons (pe_ix ix_list (pv 0) pe_int (fun _ _ => rfl)) pa_nil)) pa_nil)))))))), ?_⟩
    refine ⟨_, rfl, ?_⟩
    dsimp only [tCons, L2.tC, tNil, List.append_nil]
    refine p.fr fun H1 s1 => ⟨_, rfl, ?_⟩
    have p1 := p.same s1
    cases e : fieldRight n m t d wd with
    | false =>
      refine ⟨_, rfl, l, _, _, _, rfl, rfl, p1.at_, atI_nat (j := 0) rfl, (by show 2 ≤ sizeLine; decide), fun a ha => ?_⟩
      exact k1 e _ a (s1.trans (same_new ha)) upd_same
    | true =>
      obtain ⟨ds, e4, e5⟩ := right_was e
      obtain ⟨c, vs, rfl, sq, da, shp⟩ := p1.qw.seq e4
      obtain ⟨rfl, e7⟩ := dpAll_txts da e5
      have e8 : txtsOf wd = txts ds := by simp only [txtsOf, e4, Option.getD_some]
      refine ⟨_, rfl, l, _, _, _, rfl, rfl, p1.at_, atI_nat (j := 0) rfl, _, rfl, l, _, _, _, rfl, rfl, p1.at_, atI_nat (j := 1) rfl, _, rfl, l, _, _, _, rfl, rfl, p1.at_, atI_nat (j := 2) rfl, _, rfl, l, _, _, _, rfl, rfl, p1.at_, atI_nat (j := 3) rfl, _, rfl, l, _, _, _, rfl, rfl, p1.at_, atI_nat (j := 4) rfl, c, (txts ds).map V.str, rfl, ?_⟩
      rcases sq with ⟨sq, _⟩ | ⟨sq, _⟩
      · refine .inl ⟨sq, fun T hT => ⟨(by show 5 ≤ sizeLine; decide), fun a ha => ?_⟩⟩
        have s2 := same_new (o := HO.tup ((txts ds).map V.str)) hT
        have s3 := same_new (o := HO.lst [un, um, ut, ud, .ref T]) ha
        refine k2 e _ a T (s1.trans (s2.trans s3)) upd_same ?_
        rw [e8]
        exact sqT_same s3 (SqT.of upd_same)
      · refine .inr ⟨sq, (by show 5 ≤ sizeLine; decide), fun a ha => ?_⟩
        have s3 := same_new (o := HO.lst [un, um, ut, ud, .ref c]) ha
        refine k2 e _ a c (s1.trans s3) upd_same ?_
        rw [e8]
        exact sqT_same s3 sq
end
end Wp
set_option Elab.async false
set_option linter.all false
set_option maxRecDepth 100000
set_option maxHeartbeats 4000000
namespace Wp
open PySem PySem.Spec PyProof.Rows L2
/-! ## a right field is made -/
abbrev lMF : Stmt := top 52
abbrev psF : List Str := ["self", "name", "mode", "target", "default", "was"]
structure MkF (P : Program) (w : World) (K : PySem.W.Frag) (mg : Str → Option Value) (base : Heap) (CF CB fI : Addr) (fdI : FuncData) : Prop where
  ok : FnOk P w K mg base (L2.CX P w) 4 fI fdI psF (spFI K CF CB)
  made : Mk K CF fI
  gl : mg "Field" = some (.ref CF)
  kb : KBn K fdI psF 3 ["target", "default", "was"] (fun us ws => us ++ ws) (fun vs zs => vs ++ zs)
theorem passC {P : Program} {w : World} {X : Cx} : Passes (L2.CX P w) X E0 := by
  intro pins σ H s e s' I c
  obtain ⟨_, _, _, _, _, _, _, _, _, _, _, _, z⟩ := c
  exact False.elim z
def spMF (K : PySem.W.Frag) (CF : Addr) : Sp := fun vs H Q _ => ∃ (l : Addr) (un um ut ud uw : V) (n m t d w : PyData), vs = [.ref l] ∧ Pts5 K H l un um ut ud uw n m t d w ∧ fieldRight n m t d w = true ∧
  ∀ (H' : Hp) (x dx T : Addr), Same H H' → H x = none → H' x = some (.ins CF dx (fsF un um ut ud T)) → SqT K H' T ((txtsOf w).map V.str) → Q (.ref x) H'
section
variable {P : Program} {w : World} {K : PySem.W.Frag} {mg : Str → Option Value} {base : Heap}
theorem scMF : FnScope ["_law_parts"] ["_law_parts"] (defScope lMF) := ⟨rfl, rfl, rfl, by decide +kernel, rfl, by decide +kernel, by decide +kernel⟩
theorem ok_MF {f CF CB fI : Addr} {fd fdI : FuncData} (F : Fun K "_law_made_field" "_law_made_field" lMF f fd) (B : Bn mg) (M : MkF P w K mg base CF CB fI fdI) : FnOk P w K mg base CX0 6 f fd ["_law_parts"] (spMF K CF) := by
  refine F.ok scMF (fun vs H Q E h => ?_) (fun cdv A outer s H vs Q E hr h => ?_)
  · obtain ⟨l, un, um, ut, ud, uw, n, m, t, d, wd, rfl, _⟩ := h
    rfl
  · obtain ⟨l, un, um, ut, ud, uw, n, m, t, d, wd, rfl, p, right, k⟩ := h
    refine ⟨_, pss_one (ps_ret (pe_makeK M.made M.ok hr rfl M.gl M.kb passC (pa_cons (pe_ix ix_list (pv 0) pe_int (fun _ _ => rfl)) (pa_cons (pe_ix ix_list (pv 0) pe_int (fun _ _ => rfl)) pa_nil))
      (pk_cons (pe_ix ix_list (pv 0) pe_int (fun _ _ => rfl)) (pk_cons (pe_ix ix_list (pv 0) pe_int (fun _ _ => rfl)) (pk_cons (pe_ix ix_list (pv 0) pe_int (fun _ _ => rfl)) pk_nil))))), ?_⟩
    refine ⟨_, rfl, l, _, _, _, rfl, rfl, p.at_, atI_nat (j := 0) rfl, _, rfl, l, _, _, _, rfl, rfl, p.at_, atI_nat (j := 1) rfl, _, rfl, l, _, _, _, rfl, rfl, p.at_, atI_nat (j := 2) rfl, _, rfl, l, _, _, _, rfl, rfl, p.at_, atI_nat (j := 3) rfl, _, rfl, l, _, _, _, rfl, rfl, p.at_, atI_nat (j := 4) rfl, rfl, rfl, fun x dx hx hdx nx => ?_⟩
    have s1 : Same H (upd (upd H dx (.own x)) x (.ins CF dx [])) := fun b o e => by
      rw [upd_ne (ne_of_none e hx), upd_ne (ne_of_none e hdx)]
      exact e
    refine ⟨x, dx, un, um, ut, ud, uw, n, m, t, d, wd, rfl, upd_same, p.qn.same s1, p.qm.same s1, p.qt.same s1, p.qd.same s1, p.qw.same s1, p.sn, p.st, p.sw, fun _ H' tw b1 e1 e2 => ⟨rfl, ?_⟩, fun e => ?_⟩
    · exact k H' x dx tw (fun b o e => b1 b o (ne_of_none e hx) (s1 _ _ e)) hx e1 e2
    · rw [right] at e
      cases e
end
end Wp
set_option Elab.async false
set_option linter.all false
set_option maxRecDepth 100000
set_option maxHeartbeats 4000000
namespace Wp
open PySem PySem.Spec PyProof.Rows L2
/-! ## a kind is made of its parts, or refused -/
abbrev lKM : Stmt := top 57
abbrev psK : List Str := ["self", "name", "fields", "base", "frozen", "heirs", "key", "registered"]
abbrev nKM : List Str := ["_law_parts", "_law_name", "_law_fields", "_law_own_base", "_law_own_frozen", "_law_own_heirs", "_law_own_key", "_law_own_registered"]
structure MkKd (P : Program) (w : World) (K : PySem.W.Frag) (mg : Str → Option Value) (base : Heap) (CF CK CB fI : Addr) (fdI : FuncData) : Prop where
  ok : FnOk P w K mg base (L2N.CX P w) 3 fI fdI psK (spKI K CF CK CB)
  made : Mk K CK fI
  gl : mg "Kind" = some (.ref CK)
  kb : KBn K fdI psK 3 ["base", "frozen", "heirs", "key", "registered"] (fun us ws => us ++ ws) (fun vs zs => vs ++ zs)
theorem sq_but {K : PySem.W.Frag} {H H' : Hp} {a x C dx : Addr} {us : List V} {fs : List (Str × V)} (b : But x H H') (hx : H x = some (.ins C dx fs)) (h : SqL K H a us ∨ SqT K H a us) : SqL K H' a us ∨ SqT K H' a us := by
  rcases h with ((h | ⟨o, h⟩) | h) | ((h | ⟨o, h⟩) | h)
  · exact .inl (.inl (.inl (b _ _ (ne_of h hx (by intro z; cases z)) h)))
  · exact .inl (.inl (.inr ⟨o, b _ _ (ne_of h hx (by intro z; cases z)) h⟩))
  · exact .inl (.inr h)
  · exact .inr (.inl (.inl (b _ _ (ne_of h hx (by intro z; cases z)) h)))
  · exact .inr (.inl (.inr ⟨o, b _ _ (ne_of h hx (by intro z; cases z)) h⟩))
  · exact .inr (.inr h)
def spKM (K : PySem.W.Frag) (CF CK CB : Addr) : Sp := fun vs H Q E => ∃ (l : Addr) (un ufs ub uf uh uk ur : V) (n b f h k r : PyData) (o : Option (List Item)) (us : List V), vs = [.ref l] ∧ SqL K H l [un, ufs, ub, uf, uh, uk, ur] ∧
  Dq K H un n ∧ FsU K CF H ufs us o ∧ Dq K H ub b ∧ Dq K H uf f ∧ Dq K H uh h ∧ Dq K H uk k ∧ Dq K H ur r ∧ Shrt n ∧ Shrt b ∧ Shrt k ∧
  (kindRight n o b f h k r = true → ∀ (H' : Hp) (x dx tf : Addr), Same H H' → H x = none → H' x = some (.ins CK dx (fsK un (.ref tf) ub uf uh uk ur)) → SqT K H' tf us → Q (.ref x) H') ∧
  (kindRight n o b f h k r = false → ∀ (H' : Hp) (e : Addr), Same H H' → H e = none → H' e = some (.xd [("name", un)]) → E (.ref CB) (some e) H')
section
variable {P : Program} {w : World} {K : PySem.W.Frag} {mg : Str → Option Value} {base : Heap}
theorem scKM : FnScope nKM ["_law_parts"] (defScope lKM) := ⟨rfl, rfl, rfl, by decide +kernel, rfl, by decide +kernel, by decide +kernel⟩
theorem ok_KM {f CF CK CB fI : Addr} {fd fdI : FuncData} (F : FunD K "_law_kind_made" "_law_kind_made" (defArgs lKM) (defBody lKM) (defScope lKM) [] [] f fd) (B : Bn mg) (M : MkKd P w K mg base CF CK CB fI fdI) : FnOk P w K mg base (L2N.CX P w) 5 f fd ["_law_parts"] (spKM K CF CK CB) := by
  refine F.ok scKM (fun vs H Q E h => ?_) (fun cdv A outer s H vs Q E hr h => ?_)
  · obtain ⟨l, un, ufs, ub, uf, uh, uk, ur, n, b, ff, hh, k, r, o, us, rfl, _⟩ := h
    rfl
  · obtain ⟨l, un, ufs, ub, uf, uh, uk, ur, n, b, ff, hh, k, r, o, us, rfl, hl, qn, qo, qb, qf, qh, qk, qr, sn, sb, sk, k1, k2⟩ := h
    refine ⟨_, pss_cons (ps_asg (pv 0) (pg_lst rfl (pgs_cons (pg_name (i := 1) scKM.nd rfl (.inl rfl)) (pgs_cons (pg_name (i := 2) scKM.nd rfl (.inl rfl)) (pgs_cons (pg_name (i := 3) scKM.nd rfl (.inl rfl)) (pgs_cons (pg_name (i := 4) scKM.nd rfl (.inl rfl))
        (pgs_cons (pg_name (i := 5) scKM.nd rfl (.inl rfl)) (pgs_cons (pg_name (i := 6) scKM.nd rfl (.inl rfl)) (pgs_cons (pg_name (i := 7) scKM.nd rfl (.inl rfl)) pgs_nil)))))))))
      (pss_one (ps_ret (pe_makeK M.made M.ok (hr.mono (by decide)) rfl M.gl M.kb (L2N.passes_call (L2N.takes_of rfl rfl rfl rfl) (fun _ _ _ _ h => h)) (pa_cons (pv 1) (pa_cons (pv 2) pa_nil))
        (pk_cons (pv 3) (pk_cons (pv 4) (pk_cons (pv 5) (pk_cons (pv 6) (pk_cons (pv 7) pk_nil)))))))), ?_⟩
    refine ⟨_, rfl, l, _, rfl, hl, rfl, _, _, rfl, _, _, rfl, _, _, rfl, _, _, rfl, _, _, rfl, _, _, rfl, _, _, rfl, rfl, ?_⟩
    refine ⟨_, rfl, _, rfl, _, rfl, _, rfl, _, rfl, _, rfl, _, rfl, rfl, rfl, fun x dx hx hdx nx => ?_⟩
    have s1 : Same H (upd (upd H dx (.own x)) x (.ins CK dx [])) := fun b o e => by
      rw [upd_ne (ne_of_none e hx), upd_ne (ne_of_none e hdx)]
      exact e
    refine ⟨x, dx, un, ufs, ub, uf, uh, uk, ur, n, b, ff, hh, k, r, o, us, rfl, upd_same, qn.same s1, qo.same s1, qb.same s1, qf.same s1, qh.same s1, qk.same s1, qr.same s1, sn, sb, sk, fun e H' tf b1 e1 sT => ⟨rfl, ?_⟩, fun e H' ex s2 ne e1 => ?_⟩
    · exact k1 e H' x dx tf (fun b o q => b1 b o (ne_of_none q hx) (s1 _ _ q)) hx e1 sT
    · exact k2 e H' ex (s1.trans s2) (none_of s1 ne) e1
end
end Wp
set_option Elab.async false
set_option linter.all false
set_option maxRecDepth 100000
set_option maxHeartbeats 4000000
namespace Wp
open PySem PySem.Spec PyProof.Rows L2
/-! ## C(e, .., k = v, ..) within a try: what is raised is wished for at the caller's slots -/
def tMkKS (C : Addr) (n m : Nat) (sp : Sp) (gV : List V → List V → List V) (E : L2.St → XK) (t tk : TA) : TE := fun σ H Q => tMakeK C n m sp gV (E σ) t tk σ H Q
def tMkS (C : Addr) (n : Nat) (sp : Sp) (gV : List V → List V → List V) (E : L2.St → XK) (t : TA) : TE := fun σ H Q => t σ H fun vs H1 => vs.length = n ∧ ∀ x dx, H1 x = none → H1 dx = none → dx ≠ x →
  sp (gV (.ref x :: vs) []) (upd (upd H1 dx (.own x)) x (.ins C dx [])) (fun v H2 => v = .non ∧ Q (.ref x) H2) (E σ)
section
variable {X : Cx} {CX : CXT} {k n : Nat} {f C : Addr} {fd : FuncData} {ps ks : List Str} {sp : Sp} {E : L2.St → XK} {x : Str} {p pos : Pos} {e : Expr} {es : List Expr} {kws : List Keyword} {t tk : TA} {g : List Value → List Value → List Value} {gV : List V → List V → List V}
theorem run_mkAt {pins : List (Addr × Obj)} {σ : L2.St} {H : Hp} {s : Shared} {Q : VK} {us ws : List Value} {vs zs : List V} (M : Mk X.K C f) (F : FnOk X.prog X.w X.K X.mg X.base CX k f fd ps sp) (hr : Room (k + 1) X.A) (hb : KBn X.K fd ps (n + 1) ks g gV) (hx : PassesAt CX X σ (E σ))
    (I : Inv X pins σ H s) (r : Vals vs us) (rz : Vals zs ws) (l1 : vs.length = n) (l2 : zs.length = ks.length)
    (h : ∀ x dx, H x = none → H dx = none → dx ≠ x → sp (gV (.ref x :: vs) zs) (upd (upd H dx (.own x)) x (.ins C dx [])) (fun v H2 => v = .non ∧ Q (.ref x) H2) (E σ)) :
    wpAny (model X.prog X.w) X.A (call (.ref C) us (ks.zip ws)) (EP X pins σ Q) X.xe s := by
  have hq := h (s.heap.objs.size + 1) s.heap.objs.size (I.hok.fresh (Nat.le_succ _)) (I.hok.fresh (Nat.le_refl _)) (Nat.ne_of_lt (Nat.lt_succ_self _))
  have J := Inv.made (C := C) I
  have r1 : Vals (V.ref (s.heap.objs.size + 1) :: vs) (Value.ref (s.heap.objs.size + 1) :: us) := .cons rfl r
  have n1 : (Value.ref (s.heap.objs.size + 1) :: us).length = n + 1 := by rw [List.length_cons, ← r.length, l1]
  refine wpAny_call (make_map (f := f) I.kIn M.makes M.init (beq_iff_eq.mp M.fn) (codeAny_mono (F.run _ X.stack _ _ ⟨Value.ref (s.heap.objs.size + 1) :: us, ks.zip ws⟩ _ _ _ (E σ) (hr.make C us (ks.zip ws))
    (J.env0.make C us (ks.zip ws)) (hb.to _ _ ws J.kIn n1 (rz.length.symm.trans l2)) (hb.rel r1 rz) hq) fun r s' hq' => ?_))
  rcases r with e | fl
  · exact hx pins _ _ e s' J hq'
  · rcases fl with _ | _ | _ | u
    · exact False.elim hq'
    · exact False.elim hq'
    · exact False.elim hq'
    · obtain ⟨v, H', I3, rv, ev, q3⟩ := J.after hq'
      subst ev
      exact ⟨rv, ⟨V.ref (s.heap.objs.size + 1), H', I3, rfl, q3⟩⟩
theorem pe_mkKS (M : Mk X.K C f) (F : FnOk X.prog X.w X.K X.mg X.base CX k f fd ps sp) (hr : Room (k + 1) X.A) (hg : Gl X x) (hm : X.mg x = some (.ref C)) (hb : KBn X.K fd ps (n + 1) ks g gV) (hx : ∀ σ, PassesAt CX X σ (E σ)) (ha : PA X (e :: es) t) (hkw : PK X kws tk)
    (hall : (backToKw pos (keywordEach kws X.env)).all (·.1.isSome) = true := by rfl) (hks : (backToKw pos (keywordEach kws X.env)).filterMap (·.1) = ks := by rfl) (hdb : (x == ("__debug__" : Str)) = false := by decide)
    (he : starEach (e :: es) X.env = (false, eval e X.env) :: starEach es X.env := by rfl) (hpl : ((backTo pos (starEach (e :: es) X.env)).any (·.1) || (backToKw pos (keywordEach kws X.env)).any (·.1.isNone)) = false := by rfl) :
    PE X (.Call (.Name x p) (e :: es) kws pos) (tMkKS C n ks.length sp gV E t tk) := by
  refine ⟨fun pins s σ H Q I h => wpAny_Call_Name_kw (ld_glob I hg hm ?_ hdb)⟩
  refine PySem.W.callWith_KW (h₀ := X.base) I.ok.mod.kin M.kp hall (thn (ha.run pos pins s σ H _ I h) fun us s1 ⟨vs, H1, I1, r, q⟩ => ?_) hpl he
  refine thn (hkw.run pos pins s1 σ H1 _ I1 q) fun ws s2 ⟨zs, H2, I2, rz, l1, l2, q2⟩ => ⟨I2.kIn, ?_⟩
  rw [hks]
  exact run_mkAt M F hr hb (hx σ) I2 r rz l1 l2 q2
/-- C(e, ..): what is not given stands as the class has it -/
theorem pe_mkS (M : Mk X.K C f) (F : FnOk X.prog X.w X.K X.mg X.base CX k f fd ps sp) (hr : Room (k + 1) X.A) (hg : Gl X x) (hm : X.mg x = some (.ref C)) (hb : KBn X.K fd ps (n + 1) [] g gV) (hx : ∀ σ, PassesAt CX X σ (E σ)) (ha : PA X (e :: es) t)
    (hdb : (x == ("__debug__" : Str)) = false := by decide) (he : starEach (e :: es) X.env = (false, eval e X.env) :: starEach es X.env := by rfl) (hpl : (backTo pos (starEach es X.env)).any (·.1) = false := by rfl) :
    PE X (.Call (.Name x p) (e :: es) [] pos) (tMkS C n sp gV E t) := by
  refine ⟨fun pins s σ H Q I h => wpAny_Call_Name_kw (ld_glob I hg hm ?_ hdb)⟩
  refine PySem.W.callWith_K (h₀ := X.base) I.ok.mod.kin M.kp (thn (ha.run pos pins s σ H _ I h) fun us s1 ⟨vs, H1, I1, r, l1, q⟩ => ⟨I1.kIn, ?_⟩) he hpl
  exact run_mkAt (ks := []) (ws := []) (zs := []) M F hr hb (hx σ) I1 r .nil l1 rfl q
end
end Wp
set_option Elab.async false
set_option linter.all false
set_option maxRecDepth 100000
set_option maxHeartbeats 4000000
namespace Wp
open PySem PySem.Spec PyProof.Rows L2
/-! ## what a field tells, made of its parts in either way -/
abbrev lFT : Stmt := top 50
abbrev nFT : List Str := ["_law_parts", "_law_short", "_law_field", "e"]
/-- how a field is made of two parts: the others stand as the class has them -/
structure MkF2 (K : PySem.W.Frag) (fdI : FuncData) (T0 : Addr) : Prop where
  kb : ∃ g : List Value → List Value → List Value, KBn K fdI psF 3 [] g (fun vs _ => vs ++ [.non, .int 0, .ref T0])
  at_ : ∀ H, Dq K H (.ref T0) (.tuple [])
def spFT (K : PySem.W.Frag) : Sp := fun vs H Q _ => ∃ (l : Addr) (sh : Bool) (un um ut ud uw : V) (n m t d w : PyData), vs = [.ref l, .bl sh] ∧ Pts5 K H l un um ut ud uw n m t d w ∧
  (sh = true → ut = .non ∧ t = .none ∧ ud = .int 0 ∧ d = .int 0 ∧ w = .tuple []) ∧
  (fieldRight n m t d w = false → ∀ (H' : Hp) (a : Addr), Same H H' → H' a = some (.tup [.str "bad", un]) → Q (.ref a) H') ∧
  (fieldRight n m t d w = true → ∀ (H' : Hp) (a T : Addr), Same H H' → H' a = some (.lst [un, um, ut, ud, .ref T]) → SqT K H' T ((txtsOf w).map V.str) → Q (.ref a) H')
section
variable {P : Program} {w : World} {K : PySem.W.Frag} {mg : Str → Option Value} {base : Heap}
theorem scFT : FnScope nFT ["_law_parts", "_law_short"] (defScope lFT) := ⟨rfl, rfl, rfl, by decide +kernel, rfl, by decide +kernel, by decide +kernel⟩
theorem made2 {CF x dx : Addr} {H : Hp} (hx : H x = none) (hdx : H dx = none) : Same H (upd (upd H dx (.own x)) x (.ins CF dx [])) := fun b o e => by
  rw [upd_ne (ne_of_none e hx), upd_ne (ne_of_none e hdx)]
  exact e
theorem ok_FT {f CF CB fI T0 : Addr} {fd fdI fdB : FuncData} {fB : Addr} (F : Fun K "_law_field_told" "_law_field_told" lFT f fd) (B : Bn mg) (M : MkF P w K mg base CF CB fI fdI) (M2 : MkF2 K fdI T0) (C : PlainC K CF ["name", "mode", "target", "default", "was"])
    (ME : Mk1 P w K mg base "BadField" "name" CB fB fdB) (ex : PySem.W.exmOne K (.ref CB) (.ref CB) = some true) : FnOk P w K mg base CX0 6 f fd ["_law_parts", "_law_short"] (spFT K) := by
  refine F.ok scFT (fun vs H Q E h => ?_) (fun cdv A outer s H vs Q E hr h => ?_)
  · obtain ⟨l, sh, un, um, ut, ud, uw, n, m, t, d, wd, rfl, _⟩ := h
    rfl
  · obtain ⟨l, sh, un, um, ut, ud, uw, n, m, t, d, wd, rfl, p, hs, k1, k2⟩ := h
    obtain ⟨g2, kb2⟩ := M2.kb
    have XA : XfC K CB := ⟨ME.X.hg, ME.X.hk, ME.X.hs, ME.X.hd⟩
    refine ⟨_, pss_cons (ps_try_as (i := 3) (Wout := fun _ _ _ _ => False) rfl rfl scFT.nd rfl rfl ⟨rfl, by decide, .inl ME.gC⟩ takes0
        (fun W pn xe tk _ => pss_one (ps_if (pt_val (pv 1))
          (pss_one (ps_set (i := 2) scFT.nd rfl (.inl rfl) (by exact (pe_mkS M.made M.ok hr rfl M.gl kb2 (fun σ => passAt tk σ) (pa_cons (pe_ix (show IxR _ (rIxL K) from ix_list) (pv 0) pe_int (fun _ _ => rfl)) (pa_cons (pe_ix (show IxR _ (rIxL K) from ix_list) (pv 0) pe_int (fun _ _ => rfl)) pa_nil))))))
          (pss_one (ps_set (i := 2) scFT.nd rfl (.inl rfl) (by exact (pe_mkKS M.made M.ok hr rfl M.gl M.kb (fun σ => passAt tk σ) (pa_cons (pe_ix (show IxR _ (rIxL K) from ix_list) (pv 0) pe_int (fun _ _ => rfl)) (pa_cons (pe_ix (show IxR _ (rIxL K) from ix_list) (pv 0) pe_int (fun _ _ => rfl)) pa_nil))
            (pk_cons (pe_ix (show IxR _ (rIxL K) from ix_list) (pv 0) pe_int (fun _ _ => rfl)) (pk_cons (pe_ix (show IxR _ (rIxL K) from ix_list) (pv 0) pe_int (fun _ _ => rfl)) (pk_cons (pe_ix (show IxR _ (rIxL K) from ix_list) (pv 0) pe_int (fun _ _ => rfl)) pk_nil)))))))))
        (fun a oe cls d pn hz hf => pss_one (ps_ret (pe_tup (pa_cons pe_str (pa_cons (pe_xf XA ME.no hz hf (pv 3)) pa_nil))))))
      (pss_one (ps_ret (pe_lst (pa_cons (pe_fld (pv 2) rfl) (pa_cons (pe_fld (pv 2) rfl) (pa_cons (pe_fld (pv 2) rfl) (pa_cons (pe_fld (pv 2) rfl) (pa_cons (pe_fld (pv 2) rfl) pa_nil)))))))), ?_⟩
    have lk := lk_fs
    cases sh with
    | true =>
      obtain ⟨rfl, rfl, rfl, rfl, rfl⟩ := hs rfl
      refine ⟨_, rfl, _, rfl, ?_⟩
      refine iteT ?_
      refine ⟨_, rfl, l, _, _, _, rfl, rfl, p.at_, atI_nat (j := 0) rfl, _, rfl, l, _, _, _, rfl, rfl, p.at_, atI_nat (j := 1) rfl, rfl, fun x dx hx hdx nx => ?_⟩
      have s1 := made2 (CF := CF) hx hdx
      refine ⟨x, dx, un, um, .non, .int 0, .ref T0, n, m, .none, .int 0, .tuple [], rfl, upd_same, p.qn.same s1, p.qm.same s1, p.qt.same s1, p.qd.same s1, M2.at_ _, p.sn, p.st, p.sw, fun right H' T b1 e1 e2 => ⟨rfl, ?_⟩, fun bad H' c se ne he => ?_⟩
      · have s2 : Same H H' := fun b o e => b1 b o (ne_of_none e hx) (s1 _ _ e)
        refine ⟨_, rfl, x, CF, dx, _, _, rfl, e1, C.cl, C.no _ (by simp), (lk _ _ _ _ _).2.2.2.2, _, rfl, x, CF, dx, _, _, rfl, e1, C.cl, C.no _ (by simp), (lk _ _ _ _ _).2.2.2.1, _, rfl, x, CF, dx, _, _, rfl, e1, C.cl, C.no _ (by simp), (lk _ _ _ _ _).2.2.1, _, rfl, x, CF, dx, _, _, rfl, e1, C.cl, C.no _ (by simp), (lk _ _ _ _ _).2.1, _, rfl, x, CF, dx, _, _, rfl, e1, C.cl, C.no _ (by simp), (lk _ _ _ _ _).1, (by show 5 ≤ sizeLine; decide), fun a ha => ?_⟩
        have s3 := same_new (o := HO.lst [un, um, .non, .int 0, .ref T]) ha
        exact k2 right _ a T (s2.trans s3) upd_same (sqT_same s3 e2)
      · refine ⟨true, ex, fun _ a0 na0 => ?_, fun q => Bool.noConfusion q⟩
        refine ⟨_, rfl, rfl, rfl, c, _, un, rfl, he, (by simp [List.lookup]), (by show 2 ≤ sizeLine; decide), fun a ha => ?_⟩
        exact k1 bad _ a ((s1.trans se).trans (same_new ha)) upd_same
    | false =>
      refine ⟨_, rfl, _, rfl, ?_⟩
      refine iteF ?_
      refine ⟨_, rfl, l, _, _, _, rfl, rfl, p.at_, atI_nat (j := 0) rfl, _, rfl, l, _, _, _, rfl, rfl, p.at_, atI_nat (j := 1) rfl, _, rfl, l, _, _, _, rfl, rfl, p.at_, atI_nat (j := 2) rfl, _, rfl, l, _, _, _, rfl, rfl, p.at_, atI_nat (j := 3) rfl, _, rfl, l, _, _, _, rfl, rfl, p.at_, atI_nat (j := 4) rfl, rfl, rfl, fun x dx hx hdx nx => ?_⟩
      have s1 := made2 (CF := CF) hx hdx
      refine ⟨x, dx, un, um, ut, ud, uw, n, m, t, d, wd, rfl, upd_same, p.qn.same s1, p.qm.same s1, p.qt.same s1, p.qd.same s1, p.qw.same s1, p.sn, p.st, p.sw, fun right H' T b1 e1 e2 => ⟨rfl, ?_⟩, fun bad H' c se ne he => ?_⟩
      · have s2 : Same H H' := fun b o e => b1 b o (ne_of_none e hx) (s1 _ _ e)
        refine ⟨_, rfl, x, CF, dx, _, _, rfl, e1, C.cl, C.no _ (by simp), (lk _ _ _ _ _).2.2.2.2, _, rfl, x, CF, dx, _, _, rfl, e1, C.cl, C.no _ (by simp), (lk _ _ _ _ _).2.2.2.1, _, rfl, x, CF, dx, _, _, rfl, e1, C.cl, C.no _ (by simp), (lk _ _ _ _ _).2.2.1, _, rfl, x, CF, dx, _, _, rfl, e1, C.cl, C.no _ (by simp), (lk _ _ _ _ _).2.1, _, rfl, x, CF, dx, _, _, rfl, e1, C.cl, C.no _ (by simp), (lk _ _ _ _ _).1, (by show 5 ≤ sizeLine; decide), fun a ha => ?_⟩
        have s3 := same_new (o := HO.lst [un, um, ut, ud, .ref T]) ha
        exact k2 right _ a T (s2.trans s3) upd_same (sqT_same s3 e2)
      · refine ⟨true, ex, fun _ a0 na0 => ?_, fun q => Bool.noConfusion q⟩
        refine ⟨_, rfl, rfl, rfl, c, _, un, rfl, he, (by simp [List.lookup]), (by show 2 ≤ sizeLine; decide), fun a ha => ?_⟩
        exact k1 bad _ a ((s1.trans se).trans (same_new ha)) upd_same
end
end Wp
set_option Elab.async false
set_option linter.all false
set_option maxRecDepth 100000
set_option maxHeartbeats 4000000
namespace Wp
open PySem PySem.Spec PyProof.Rows L2
/-! ## the five parts that were drawn; a right field's values -/
section
variable {K : PySem.W.Frag} {H H0 : Hp} {l : Addr} {un um ut ud uw : V} {n m t d w : PyData}
theorem pts_of (eq : SqL K H l [un, um, ut, ud, uw]) (a : Vd K H un n) (b : Vd K H um m) (c : Vd K H ut t) (e : Vd K H ud d) (f : Vd K H uw w) : Pts5 K H l un um ut ud uw n m t d w :=
  ⟨eq, a.q, b.q, c.q, e.q, f.q, a.a, c.a, f.b, c.p, c.s.sz⟩
theorem PartsAt.five {vs : List V} {ds : List PyData} (h : PartsAt K H0 H l vs ds) : ∃ (un um ut ud uw : V) (n m t d w : PyData), vs = [un, um, ut, ud, uw] ∧ ds = [n, m, t, d, w] ∧
    VdL K H0 H l un n ∧ VdL K H0 H l um m ∧ VdL K H0 H l ut t ∧ VdL K H0 H l ud d ∧ VdL K H0 H l uw w := by
  obtain ⟨eq, vd, len⟩ := h
  cases vd with
  | nil => cases len
  | cons a vd => cases vd with
    | nil => cases len
    | cons b vd => cases vd with
      | nil => cases len
      | cons c vd => cases vd with
        | nil => cases len
        | cons e vd => cases vd with
          | nil => cases len
          | cons f vd => cases vd with
            | nil => exact ⟨_, _, _, _, _, _, _, _, _, _, rfl, rfl, a, b, c, e, f⟩
            | cons g vd => simp at len
theorem PartsAt.pts {vs : List V} {ds : List PyData} (h : PartsAt K H0 H l vs ds) : ∃ (un um ut ud uw : V) (n m t d w : PyData), vs = [un, um, ut, ud, uw] ∧ ds = [n, m, t, d, w] ∧ Pts5 K H l un um ut ud uw n m t d w := by
  obtain ⟨un, um, ut, ud, uw, n, m, t, d, w, rfl, rfl, a, b, c, e, f⟩ := h.five
  exact ⟨un, um, ut, ud, uw, n, m, t, d, w, rfl, rfl, pts_of (SqL.of h.eq) a.here b.here c.here e.here f.here⟩
theorem txts_back : ∀ {ds : List PyData}, ds.all isFieldName = true → (txts ds).map PyData.str = ds
  | [], _ => rfl
  | d :: r, h => by
    rw [List.all_cons, Bool.and_eq_true] at h
    cases d with
    | str x =>
      simp only [txts, List.map_cons]
      rw [txts_back h.2]
    | _ => simp [isFieldName, isWordN] at h
theorem shapedTupOf {ds : List PyData} {w : PyData} (q : Dq K H uw w) (e : seqOf w = some ds) : SeqAt.shaped (.tuple ds) = true := by
  cases q with
  | dct _ => cases e
  | dat q sh =>
    cases w <;> cases e
    · simpa [SeqAt.shaped, PyData.canLay0, PyData.depth] using sh
    · exact sh
/-- what a right field holds -/
theorem Pts5.fv (p : Pts5 K H l un um ut ud uw n m t d w) (right : fieldRight n m t d w = true) : ∃ v : FV, n = .str v.n ∧ un = .str v.n ∧ um = .str v.m ∧ ut = tv v.t ∧ ud = .int v.d ∧ v.w = txtsOf w ∧ SeqAt.shaped (.tuple (v.w.map PyData.str)) = true := by
  have r := right
  simp only [fieldRight, Bool.and_eq_true] at r
  obtain ⟨⟨r1, r2⟩, r3⟩ := r
  obtain ⟨x, rfl⟩ : ∃ x, n = .str x := by
    cases n <;> first | exact ⟨_, rfl⟩ | exact absurd r1 (by simp [isFieldName, isWordN])
  obtain rfl := p.qn.str_of
  obtain ⟨md, rfl⟩ : ∃ y, m = .str y := by
    cases m <;> first | exact ⟨_, rfl⟩ | exact absurd r2 (by simp [fitsMode, isTxt])
  obtain rfl := p.qm.str_of
  have q1 : ∃ o : Option Str, ut = tv o := by
    cases t with
    | none =>
      have := p.qt.non
      exact ⟨none, of_decide_eq_true (this.trans rfl)⟩
    | str z => exact ⟨some z, p.qt.str_of⟩
    | _ =>
      exfalso
      simp only [fitsMode] at r2
      split at r2 <;> simp [isNon, isTxt, isKindName] at r2
  have q2 : isInt d = true := by
    simp only [fitsMode] at r2
    split at r2
    · cases d <;> simp [isDefault] at r2 <;> rfl
    · cases d <;> simp [isZero] at r2 <;> rfl
  obtain ⟨i, rfl, rfl⟩ := p.qd.int_of q2
  obtain ⟨o, rfl⟩ := q1
  obtain ⟨ds, e4, e5⟩ := right_was right
  have q4 := p.qw
  have e8 : txtsOf w = txts ds := by simp only [txtsOf, e4, Option.getD_some]
  have e9 : (txts ds).map PyData.str = ds := by
    exact txts_back e5
  exact ⟨⟨x, md, o, i, txtsOf w⟩, rfl, rfl, rfl, rfl, rfl, rfl, by
    show SeqAt.shaped (.tuple ((txtsOf w).map PyData.str)) = true
    rw [e8, e9]
    exact shapedTupOf q4 e4⟩
end
end Wp
set_option Elab.async false
set_option linter.all false
set_option maxRecDepth 100000
set_option maxHeartbeats 4000000
namespace Wp
open PySem PySem.Spec PyProof.Rows L2
/-! ## right fields, drawn and made -/
abbrev lRF : Stmt := top 54
abbrev nRF : List Str := ["_law_pen_here", "_law_names", "_law_pool", "_law_count", "_law_shift", "_law_turned", "_law_found", "_law_k", "_law_parts"]
def spRF (K : PySem.W.Frag) (CF : Addr) : Sp := fun vs H Q _ => ∃ (p c : Addr) (ns : List Int) (qn qp : Addr) (ks ws : List Str) (cnt : Nat), vs = [.ref p, .ref qn, .ref qp, .int cnt] ∧ Pn p c ns H ∧ Names K H qn ks ∧ ks.length = 3 ∧ Pool K H qp ws ∧ ws.length = 12 ∧ cnt ≤ 12 ∧
  ∀ (q : Addr) (us : List V) (fs : List FV) (H' : Hp), H q = none → H' q = some (.lst us) → Paired (fun u v => ItAt K CF H' u (.f v)) us fs → fs.length = cnt → Go p c ns H H' → Q (.ref q) H'
theorem turn2 {ws : List Str} {v : Int} (lw : ws.length = 12) (ok : ∀ x ∈ ws, IsW x) (h0 : 0 ≤ v) (h1 : v < 12) : ∃ ts : List Str, cutV (ws.map V.str) (some v) none ++ cutV (ws.map V.str) none (some v) = ts.map V.str ∧ ts.length = 12 ∧ ∀ x ∈ ts, IsW x := by
  obtain ⟨j, rfl⟩ := Int.eq_ofNat_of_zero_le h0
  have hj : j < 12 := by omega
  refine ⟨ws.drop j ++ ws.take j, ?_, by rw [List.length_append, List.length_drop, List.length_take]; omega, fun x hx => ?_⟩
  · unfold cutV
    rw [List.length_map, lw, HT.sIx_nat, HT.sIx_nat, show min j 12 = j by omega]
    rw [show HT.sIx 12 12 none = 12 from rfl, show HT.sIx 12 0 none = 0 from rfl, List.drop_zero, Nat.sub_zero, List.take_of_length_le (by rw [List.length_drop, List.length_map, lw]; exact Nat.le_refl _), List.map_append, List.map_drop, List.map_take]
  · rcases List.mem_append.mp hx with h | h
    · exact ok x (List.mem_of_mem_drop h)
    · exact ok x (List.mem_of_mem_take h)
theorem sqT_offL {K : PySem.W.Frag} {H : Hp} {a x : Addr} {xs ys : List V} {o : HO} (h : SqT K H a xs) (hx : H x = some (.lst ys)) : SqT K (upd H x o) a xs := by
  rcases h with (h | ⟨ob, h⟩) | h
  · exact .inl (.inl (by rw [upd_ne (ne_of h hx (by intro z; cases z))]; exact h))
  · exact .inl (.inr ⟨ob, by rw [upd_ne (ne_of h hx (by intro z; cases z))]; exact h⟩)
  · exact .inr h
theorem FieldAt.sameF {K : PySem.W.Frag} {CF : Addr} {H H' : Hp} {a : Addr} {v : FV} (h : FieldAt K CF H a v) (s : Same H H') : FieldAt K CF H' a v := by
  obtain ⟨⟨dx, tw, e, sq⟩, sh⟩ := h
  exact ⟨⟨dx, tw, s _ _ e, sqT_same s sq⟩, sh⟩
theorem paired_app {α β : Type} {F : α → β → Prop} : ∀ {xs xs' : List α} {ys ys' : List β}, Paired F xs ys → Paired F xs' ys' → Paired F (xs ++ xs') (ys ++ ys')
  | _, _, _, _, .nil, h => h
  | _, _, _, _, .cons a t, h => .cons a (paired_app t h)
theorem FieldAt.app {K : PySem.W.Frag} {CF : Addr} {H : Hp} {a x : Addr} {v : FV} {ys : List V} {o : HO} (h : FieldAt K CF H a v) (hx : H x = some (.lst ys)) : FieldAt K CF (upd H x o) a v := by
  obtain ⟨⟨dx, tw, e, sq⟩, sh⟩ := h
  exact ⟨⟨dx, tw, by rw [upd_ne (ne_of e hx (by intro z; cases z))]; exact e, sqT_offL sq hx⟩, sh⟩
section
variable {P : Program} {w : World} {K : PySem.W.Frag} {mg : Str → Option Value} {base : Heap}
theorem scRF : FnScope nRF ["_law_pen_here", "_law_names", "_law_pool", "_law_count"] (defScope lRF) := ⟨rfl, rfl, rfl, by decide +kernel, rfl, by decide +kernel, by decide +kernel⟩
theorem ok_RF {f f1 f2 f3 f4 CF : Addr} {fd fd1 fd2 fd3 fd4 : FuncData} (F : Fun K "_law_right_fields" "_law_right_fields" lRF f fd) (B : Bn mg) (T : Known P w K mg base CX0 1 "_law_take" ["_law_pen_here", "_law_bound"] spTake f1 fd1)
    (FP : Known P w K mg base CX0 4 "_law_field_parts" ["_law_pen_here", "_law_names", "_law_pool", "_law_spoils"] (spFP K) f2 fd2) (FR : KnownQ P w K mg base 4 "_law_field_right" ["_law_parts"] (spFR K) f3 fd3)
    (MF : Known P w K mg base CX0 6 "_law_made_field" ["_law_parts"] (spMF K CF) f4 fd4) : GOk P w K mg base CX0 7 f fd ["_law_pen_here", "_law_names", "_law_pool", "_law_count"] (spRF K CF) := by
  refine gok_of F scRF (fun vs H Q E h => ?_) (fun cdv A outer s H vs Q E hG hr h => ?_)
  · obtain ⟨p, c, ns, qn, qp, ks, ws, cnt, rfl, _⟩ := h
    rfl
  · obtain ⟨p, c, ns, qn, qp, ks, ws, cnt, rfl, pn, nm, lk, po, lw, few, k⟩ := h
    refine ⟨_, pss_cons (ps_set (i := 4) scRF.nd rfl (.inl rfl) (pe_call T.ok (hr.mono (by decide)) rfl T.mg T.kp T.bi .nil pass0 (pa_cons (pv 0) (pa_cons (pe_callB call_len_seq (by rfl) B.len PySem.boot_len (pa_cons (pv 2) pa_nil)) pa_nil))))
      (pss_cons (ps_set (i := 5) scRF.nd rfl (.inl rfl) (pe_op op_cat (pe_slice sl_list (pv 2) (po_some (pv 4)) po_none) (pe_slice sl_list (pv 2) po_none (po_some (pv 4)))))
      (pss_cons (ps_set (i := 6) scRF.nd rfl (.inl rfl) (pe_lst pa_nil))
      (pss_cons (ps_for PassesOwn.leaving rfl (pi_range1 rfl B.range (pa_cons (pv 3) pa_nil)) (pg_name (i := 7) scRF.nd rfl (Or.inl rfl))
        (pss_cons (ps_set (i := 8) scRF.nd rfl (.inl rfl) (pe_call FP.ok (hr.mono (by decide)) rfl FP.mg FP.kp FP.bi .nil pass0 (pa_cons (pv 0) (pa_cons (pv 1) (pa_cons (pv 2) (pa_cons pe_int pa_nil))))))
        (pss_cons (ps_asg (pe_ix ix_list (pv 5) (pv 7) (fun _ _ => rfl)) (pg_sub (pv 8) pe_int set_list))
        (pss_cons (ps_if (pt_not (pt_val (pe_callG hG FR.ok (hr.mono (by decide)) rfl FR.mg FR.kp FR.bi pass0 (pa_cons (pv 8) pa_nil))))
          (pss_one (ps_set (i := 8) scRF.nd rfl (.inl rfl) (pe_lst (pa_cons (pe_ix ix_list (pv 5) (pv 7) (fun _ _ => rfl)) (pa_cons pe_str (pa_cons pe_non (pa_cons (pv 7) (pa_cons (pe_tup pa_nil) pa_nil)))))))) pss_nil)
        (pss_one (ps_expr (pe_bm PySem.F.plainAttrs_list PySem.F.slot_list_append PySem.F.type_list_append mt_append (pv 6) (pa_cons (pe_call MF.ok (hr.mono (by decide)) rfl MF.mg MF.kp MF.bi .nil pass0 (pa_cons (pv 8) pa_nil)) pa_nil))))))))
      (pss_one (ps_ret (pv 6)))))), ?_⟩
    refine ⟨_, rfl, _, rfl, qp, _, rfl, .inl po.sq, ?_⟩
    dsimp only [tNil, List.append_nil]
    rw [show ((ws.map V.str).length : Int) = 12 by rw [List.length_map, lw]; rfl]
    refine take_go (b := 12) pn (by decide) (by decide) fun v H1 a0 a1 g1 => ?_
    obtain ⟨ts, et, lt, ot⟩ := turn2 lw po.ok a0 a1
    refine ⟨_, rfl, _, rfl, v, rfl, qp, _, rfl, g1.sqL pn po.sq, fun b1 hb1 => ?_⟩
    have S2 := same_new (o := HO.lst (cutV (ws.map V.str) (some v) none)) hb1
    have E2 : upd H1 b1 (.lst (cutV (ws.map V.str) (some v) none)) b1 = some (.lst (cutV (ws.map V.str) (some v) none)) := upd_same
    generalize upd H1 b1 (.lst (cutV (ws.map V.str) (some v) none)) = H2 at S2 E2 ⊢
    refine ⟨_, rfl, _, rfl, v, rfl, qp, _, rfl, sqL_same S2 (g1.sqL pn po.sq), fun b2 hb2 => ?_⟩
    have S3 := same_new (o := HO.lst (cutV (ws.map V.str) none (some v))) hb2
    have E3 : upd H2 b2 (.lst (cutV (ws.map V.str) none (some v))) b2 = some (.lst (cutV (ws.map V.str) none (some v))) := upd_same
    generalize upd H2 b2 (.lst (cutV (ws.map V.str) none (some v))) = H3 at S3 E3 ⊢
    have tl : (cutV (ws.map V.str) (some v) none).length + (cutV (ws.map V.str) none (some v)).length = 12 := by
      rw [← List.length_append, et, List.length_map, lt]
    refine ⟨b1, b2, _, _, rfl, rfl, S3 _ _ E2, E3, by rw [tl]; decide, fun tq htq => ?_⟩
    rw [et]
    have S4 := same_new (o := HO.lst (ts.map V.str)) htq
    have E4 : upd H3 tq (.lst (ts.map V.str)) tq = some (.lst (ts.map V.str)) := upd_same
    generalize upd H3 tq (.lst (ts.map V.str)) = H4 at S4 E4 ⊢
    refine ⟨by show 0 ≤ sizeLine; decide, fun fq hfq => ?_⟩
    have S5 := same_new (o := HO.lst []) hfq
    have E5 : upd H4 fq (.lst []) fq = some (.lst []) := upd_same
    have E5t := S5 _ _ E4
    have ntf : tq ≠ fq := fun z => by rw [← z, E4] at hfq; cases hfq
    generalize upd H4 fq (.lst []) = H5 at S5 E5 E5t ⊢
    have s15 := ((S2.trans S3).trans S4).trans S5
    have g5 : Go p c ns H H5 := g1.trans (Go.of g1.pn s15)
    have nf : H fq = none := Go.none (g1.trans (Go.of g1.pn ((S2.trans S3).trans S4))) hfq
    refine ⟨_, rfl, cnt, rfl, by omega, by omega, ?_⟩
    refine for_it (g := gName 7) walk_range (fun i σ H' => Go p c ns H H' ∧ ∃ (us : List V) (fs : List FV) (v7 v8 : Option V), σ = [some (.ref p), some (.ref qn), some (.ref qp), some (.int cnt), some (.int v), some (.ref tq), some (.ref fq), v7, v8] ∧ H' tq = some (.lst (ts.map V.str)) ∧ H' fq = some (.lst us) ∧ Paired (fun u v => ItAt K CF H' u (.f v)) us fs ∧ fs.length = i)
      ⟨g5, [], [], none, none, rfl, E5t, E5, .nil, rfl⟩ (fun _ _ _ _ _ => trivial) ?_ ?_
    · rintro i y σ H6 H6' hi ⟨go, us, fs, v7, v8, rfl, et6, ef6, pr6, lf⟩ ⟨rfl, rfl⟩
      have hi' : i < cnt := by omega
      refine ⟨_, rfl, _, rfl, _, rfl, p, c, ns, qn, qp, ks, ws, 0, rfl, go.pn, nm.go pn go, lk, po.go pn go, lw, by decide, by decide, fun l us8 ds H8 nl pa g8 => ?_⟩
      have et8 := g8.but _ _ (Go.ne go.pn et6 (by intro x z; cases z)) et6
      have ef8 := g8.but _ _ (Go.ne go.pn ef6 (by intro x z; cases z)) ef6
      have pr8 : Paired (fun u v => ItAt K CF H8 u (.f v)) us fs := L2.Paired.mapP pr6 fun _ _ z => g8.item go.pn z
      obtain ⟨un, um, ut, ud, uw, n, m, t, d, wd, rfl, rfl, vn, vm, vt, vd, vw⟩ := pa.five
      have hit : i < ts.length := by omega
      have ati : atI (ts.map V.str) (0 + (i : Int)) = some (.str ts[i]) := by
        rw [show (0 + (i : Int)) = ((i : Nat) : Int) by omega]
        exact atI_nat (j := i) (by rw [List.getElem?_map, List.getElem?_eq_getElem hit]; rfl)
      refine ⟨_, rfl, _, rfl, tq, _, _, _, rfl, rfl, SqL.of et8, ati, ?_⟩
      have np : l ≠ p := fun z => by
        obtain ⟨a1, r, dd, mm, tt, S⟩ := go.pn
        rw [z, S.pd] at nl
        cases nl
      refine ⟨_, rfl, l, _, _, 0, rfl, rfl, pa.eq, by rfl, ?_⟩
      have ex : ∀ b o, b ≠ p → b ≠ l → H8 b = some o → upd H8 l (.lst ([un, um, ut, ud, uw].set 0 (.str ts[i]))) b = some o := fun b o _ nb q => by
        rw [upd_ne nb]
        exact q
      have vm9 := (VdL.step go.pn vm ex).here
      have vt9 := (VdL.step go.pn vt ex).here
      have vd9 := (VdL.step go.pn vd ex).here
      have vw9 := (VdL.step go.pn vw ex).here
      have g9 := Go.over (o := .lst ([un, um, ut, ud, uw].set 0 (.str ts[i]))) go.pn g8 nl
      have ltq : tq ≠ l := fun z => by rw [← z, et6] at nl; cases nl
      have lfq : fq ≠ l := fun z => by rw [← z, ef6] at nl; cases nl
      have et9 : upd H8 l (.lst ([un, um, ut, ud, uw].set 0 (.str ts[i]))) tq = _ := (upd_ne ltq).trans et8
      have ef9 : upd H8 l (.lst ([un, um, ut, ud, uw].set 0 (.str ts[i]))) fq = _ := (upd_ne lfq).trans ef8
      have pr9 : Paired (fun u v => ItAt K CF (upd H8 l (.lst ([un, um, ut, ud, uw].set 0 (.str ts[i])))) u (.f v)) us fs := L2.Paired.mapP pr8 fun _ _ z => by
        obtain ⟨a, e, q⟩ := z
        exact ⟨a, e, q.app pa.eq⟩
      have el9 : upd H8 l (.lst ([un, um, ut, ud, uw].set 0 (.str ts[i]))) l = some (.lst [.str ts[i], um, ut, ud, uw]) := upd_same
      generalize upd H8 l (.lst ([un, um, ut, ud, uw].set 0 (.str ts[i]))) = H9 at *
      have wi := ot _ (List.getElem_mem hit)
      have p9 := pts_of (SqL.of el9) (wi.vd (K := K) (H := H9)) vm9 vt9 vd9 vw9
      have g09 := go.trans g9
      refine ⟨_, rfl, ?_⟩
      dsimp only [tCons, L2.tC, tNil, List.append_nil]
      refine p9.fr fun Ha sa => ⟨_, rfl, ?_⟩
      cases er : fieldRight (.str ts[i]) m t d wd with
      | true =>
        refine ⟨_, rfl, .inl ⟨rfl, _, SqL.of (sa _ _ ef9)⟩, _, rfl, _, _, _, _, _, _, _, _, _, _, _, rfl, (p9.same sa), er, fun Hb x dx T sb nx hx sT => ?_⟩
        have sab : Same H9 Hb := (sa).trans sb
        obtain ⟨fv, q1, q2, q3, q4, q5, q6, q7⟩ := ((p9.same sa)).fv er
        have fx : FieldAt K CF Hb x fv := ⟨⟨dx, T, by rw [hx, q2, q3, q4, q5], by rw [q6]; exact sT⟩, q7⟩
        have efb := sab _ _ ef9
        have g0b := g09.trans (Go.of g09.pn sab)
        refine ⟨fq, us, .ref x, rfl, rfl, efb, by rw [pr9.length, lf]; show i + 1 ≤ sizeLine; rw [sizeLine_eq]; omega, ?_⟩
        have prb : Paired (fun u v => ItAt K CF (upd Hb fq (.lst (us ++ [.ref x]))) u (.f v)) (us ++ [.ref x]) (fs ++ [fv]) := by
          refine paired_app (L2.Paired.mapP pr9 fun _ _ z => ?_) (.cons ⟨x, rfl, fx.app efb⟩ .nil)
          obtain ⟨a, e, q⟩ := z
          exact ⟨a, e, (q.sameF sab).app efb⟩
        exact ⟨Go.over pn g0b nf, us ++ [.ref x], fs ++ [fv], _, _, rfl, (upd_ne ntf).trans (sab _ _ et9), upd_same, prb, by rw [List.length_append, lf]; rfl⟩
      | false =>
        refine ⟨_, rfl, _, rfl, tq, _, _, _, rfl, rfl, SqL.of (sa _ _ et9), ati, _, rfl, by show 0 ≤ sizeLine; decide, fun t0 h0 => ⟨by show 5 ≤ sizeLine; decide, fun l2 hl2 => ?_⟩⟩
        have sb0 := same_new (o := HO.tup []) h0
        have eb0 : upd Ha t0 (.tup []) t0 = some (.tup []) := upd_same
        generalize upd Ha t0 (.tup []) = Hc at sb0 eb0 hl2 ⊢
        have sc0 := same_new (o := HO.lst [.str ts[i], .str "mark", .non, .int (0 + (i : Int)), .ref t0]) hl2
        have ec0 : upd Hc l2 (.lst [.str ts[i], .str "mark", .non, .int (0 + (i : Int)), .ref t0]) l2 = some (.lst [.str ts[i], .str "mark", .non, .int (0 + (i : Int)), .ref t0]) := upd_same
        have et0 := sc0 _ _ eb0
        generalize upd Hc l2 (.lst [.str ts[i], .str "mark", .non, .int (0 + (i : Int)), .ref t0]) = Hd at sc0 ec0 et0 ⊢
        have sd : Same H9 Hd := (sa.trans sb0).trans sc0
        have small : (0 + (i : Int)).natAbs < 10 ^ 35 := by
          have e : (0 + (i : Int)).natAbs = i := by omega
          rw [e]
          exact Nat.lt_of_lt_of_le (show i < 12 by omega) (by decide)
        have p2 : Pts5 K Hd l2 (.str ts[i]) (.str "mark") .non (.int (0 + (i : Int))) (.ref t0) (.str ts[i]) (.str "mark") .none (.int (0 + (i : Int))) (.tuple []) :=
          pts_of (SqL.of ec0) wi.vd (vd_str (by decide +kernel) (by decide +kernel)) vd_none (vd_int small) (vd_tup et0 .nil (by decide))
        have r2 : fieldRight (.str ts[i]) (.str "mark") .none (.int (0 + (i : Int))) (.tuple []) = true := by
          have d1 : isDefault (.int (0 + (i : Int))) = true := by
            simp only [isDefault, Bool.and_eq_true, decide_eq_true_eq]
            omega
          simp only [fieldRight, wi.fld, fitsMode, d1]
          simp [isTxt, isNon, wasRight, seqOf, txts]
        refine ⟨_, rfl, .inl ⟨rfl, _, SqL.of (sd _ _ ef9)⟩, _, rfl, _, _, _, _, _, _, _, _, _, _, _, rfl, p2, r2, fun Hb x dx T sb nx hx sT => ?_⟩
        have sab : Same H9 Hb := sd.trans sb
        obtain ⟨fv, q1, q2, q3, q4, q5, q6, q7⟩ := (p2).fv r2
        have fx : FieldAt K CF Hb x fv := ⟨⟨dx, T, by rw [hx, q2, q3, q4, q5], by rw [q6]; exact sT⟩, q7⟩
        have efb := sab _ _ ef9
        have g0b := g09.trans (Go.of g09.pn sab)
        refine ⟨fq, us, .ref x, rfl, rfl, efb, by rw [pr9.length, lf]; show i + 1 ≤ sizeLine; rw [sizeLine_eq]; omega, ?_⟩
        have prb : Paired (fun u v => ItAt K CF (upd Hb fq (.lst (us ++ [.ref x]))) u (.f v)) (us ++ [.ref x]) (fs ++ [fv]) := by
          refine paired_app (L2.Paired.mapP pr9 fun _ _ z => ?_) (.cons ⟨x, rfl, fx.app efb⟩ .nil)
          obtain ⟨a, e, q⟩ := z
          exact ⟨a, e, (q.sameF sab).app efb⟩
        exact ⟨Go.over pn g0b nf, us ++ [.ref x], fs ++ [fv], _, _, rfl, (upd_ne ntf).trans (sab _ _ et9), upd_same, prb, by rw [List.length_append, lf]; rfl⟩
    · rintro σ H6 ⟨go, us, fs, v7, v8, rfl, et6, ef6, pr6, lf⟩
      exact ⟨_, rfl, k fq us fs H6 nf ef6 pr6 (by omega) go⟩
end
end Wp
set_option Elab.async false
set_option linter.all false
set_option maxRecDepth 100000
set_option maxHeartbeats 4000000
namespace Wp
open PySem PySem.Spec PyProof.Rows L2
/-! ## what is told and what is due of a field, as data -/
/-- what is told or due of a field -/
def Told (K : PySem.W.Frag) (H : Hp) (un um ut ud : V) (w : PyData) (b : Bool) (a : Addr) : Prop :=
  (b = false ∧ H a = some (.tup [.str "bad", un])) ∨ (b = true ∧ ∃ T, H a = some (.lst [un, um, ut, ud, .ref T]) ∧ SqT K H T ((txtsOf w).map V.str))
def toldD (n m t d w : PyData) (b : Bool) : PyData := if b then .list [n, m, t, d, .tuple ((txtsOf w).map PyData.str)] else .tuple [.str "bad", n]
section
variable {K : PySem.W.Frag} {H H' : Hp} {l a : Addr} {un um ut ud uw : V} {n m t d w : PyData} {Q : VK} {E : XK}
theorem ft_of {sh : Bool} (p : Pts5 K H l un um ut ud uw n m t d w) (hs : sh = true → ut = .non ∧ t = .none ∧ ud = .int 0 ∧ d = .int 0 ∧ w = .tuple [])
    (k : ∀ H' a, Same H H' → Told K H' un um ut ud w (fieldRight n m t d w) a → Q (.ref a) H') : spFT K [.ref l, .bl sh] H Q E :=
  ⟨l, sh, un, um, ut, ud, uw, n, m, t, d, w, rfl, p, hs, fun e H' a s q => k H' a s (.inl ⟨e, q⟩), fun e H' a T s q z => k H' a s (.inr ⟨e, T, q, z⟩)⟩
theorem fd_of (p : Pts5 K H l un um ut ud uw n m t d w)
    (k : ∀ H' a, Same H H' → Told K H' un um ut ud w (fieldRight n m t d w) a → Q (.ref a) H') : spFD K [.ref l] H Q E :=
  ⟨l, un, um, ut, ud, uw, n, m, t, d, w, rfl, p, fun e H' a s q => k H' a s (.inl ⟨e, q⟩), fun e H' a T s q z => k H' a s (.inr ⟨e, T, q, z⟩)⟩
theorem Told.same {b : Bool} (h : Told K H un um ut ud w b a) (s : Same H H') : Told K H' un um ut ud w b a := by
  rcases h with ⟨e, q⟩ | ⟨e, T, q, z⟩
  · exact .inl ⟨e, s _ _ q⟩
  · exact .inr ⟨e, T, s _ _ q, sqT_same s z⟩
theorem Dq.shp {v : V} {x : PyData} (q : Dq K H v x) (h : ∀ kvs, x ≠ .dict kvs) : Dp K H v x ∧ x.canLay0 = true := by
  cases q with
  | dat q sh => exact ⟨q, by simp only [SeqAt.shaped, Bool.and_eq_true] at sh; exact sh.1⟩
  | dct _ => exact absurd rfl (h [])
theorem sl_seq {ds : List PyData} (h : Sl (.list ds)) : Sl (.tuple ds) := by
  obtain ⟨a, b, c, e⟩ := h
  exact ⟨by simpa only [PyData.showable] using a, by simpa only [PyData.depth] using b, by simpa only [PyData.leavesShort] using c, by simpa only [PyData.weight] using e⟩
theorem seq_tup {ds : List PyData} (h : Sl w) (e : seqOf w = some ds) : Sl (.tuple ds) := by
  cases w <;> cases e
  · exact sl_seq h
  · exact h
theorem txtsOf_eq (e : fieldRight n m t d w = true) : ∃ ds, seqOf w = some ds ∧ ds = (txtsOf w).map PyData.str := by
  obtain ⟨ds, e1, e2⟩ := right_was e
  refine ⟨ds, e1, ?_⟩
  rw [txtsOf, e1]
  exact (txts_back e2).symm
theorem told_dr (p : Pts5 K H l un um ut ud uw n m t d w) (sn : Sl n) (sm : Sl m) (st : Sl t) (sd : Sl d) (sw : Sl w) (s : Same H H') (h : Told K H' un um ut ud w (fieldRight n m t d w) a) :
    Dr K H' (.ref a) (toldD n m t d w (fieldRight n m t d w)) ∧ Sz (toldD n m t d w (fieldRight n m t d w)) := by
  rcases h with ⟨e, q⟩ | ⟨e, T, q, z⟩
  · rw [e]
    refine ⟨.bad (SqT.of q) (p.qn.same s), sz_tup (fun x hx => ?_) (by show 2 ≤ 8; decide)⟩
    rcases List.mem_cons.mp hx with rfl | hx
    · exact (vd_str (K := K) (H := H) (x := "bad") (by decide +kernel) (by decide +kernel)).s
    · obtain rfl := List.mem_singleton.mp hx
      exact sn
  · obtain ⟨v, rfl, rfl, rfl, rfl, rfl, e6, e7⟩ := p.fv e
    obtain ⟨ds, e8, e9⟩ := txtsOf_eq e
    rw [e]
    have qn := (p.qn.same s).shp (fun _ z => by cases z)
    have em : ∃ y : Str, m = .str y := by
      cases m with
      | str y => exact ⟨y, rfl⟩
      | _ => exact absurd e (by simp [fieldRight, fitsMode, isTxt])
    obtain ⟨y, rfl⟩ := em
    have qm := (p.qm.same s).shp (fun _ z => by cases z)
    have et : ∀ kvs, t ≠ .dict kvs := fun kvs z => by
      rw [z] at e
      simp [fieldRight, fitsMode, isNon, isTxt, isKindName] at e
    have qt := (p.qt.same s).shp et
    have ed : ∃ i, d = .int i := by
      have := p.qd
      cases this with
      | dat q _ => cases q; exact ⟨_, rfl⟩
    obtain ⟨i, rfl⟩ := ed
    have qd := (p.qd.same s).shp (fun _ z => by cases z)
    have wt : Sl (.tuple ((txtsOf w).map PyData.str)) := by rw [← e9]; exact seq_tup sw e8
    refine ⟨.q (.dat (.lst (SqL.of q) (.cons qn.1 (.cons qm.1 (.cons qt.1 (.cons qd.1 (.cons (.tup z (dpAll_strs _)) .nil)))))) ?_), sz_list (fun x hx => ?_) (by show 5 ≤ 8; decide)⟩
    · have c5 : (PyData.tuple ((txtsOf w).map PyData.str)).canLay0 = true := by
        rw [← e6]
        simp only [SeqAt.shaped, Bool.and_eq_true] at e7
        exact e7.1
      have dp : PyData.depthAll [.str v.n, .str y, t, .int i, .tuple ((txtsOf w).map PyData.str)] ≤ 3 := by
        refine (sl_all _ (fun x hx => ?_)).2.1
        simp only [List.mem_cons, List.not_mem_nil, or_false] at hx
        rcases hx with rfl | rfl | rfl | rfl | rfl
        · exact sn
        · exact sm
        · exact st
        · exact sd
        · exact wt
      have cl : PyData.canLayAll0 [.str v.n, .str y, t, .int i, .tuple ((txtsOf w).map PyData.str)] = true := by
        simp only [PyData.canLayAll0, qn.2, qm.2, qt.2, qd.2, c5, Bool.and_self]
      show SeqAt.shaped (.list [.str v.n, .str y, t, .int i, .tuple ((txtsOf w).map PyData.str)]) = true
      rw [SeqAt.shaped, show (PyData.list [.str v.n, .str y, t, .int i, .tuple ((txtsOf w).map PyData.str)]).canLay0 = true from by simpa only [PyData.canLay0] using cl, Bool.true_and, decide_eq_true_eq]
      rw [PyData.depth]
      omega
    · simp only [List.mem_cons, List.not_mem_nil, or_false] at hx
      rcases hx with rfl | rfl | rfl | rfl | rfl
      · exact sn
      · exact sm
      · exact st
      · exact sd
      · exact wt
end
/-! ## two right fields are told alike only if they are equal -/
theorem small_plain {x : Str} (h : lettersIn smallS x = true) : Pln x := by
  refine List.all_eq_true.mpr fun c hc => ?_
  have h1 := of_decide_eq_true (List.all_eq_true.mp h c hc)
  exact List.all_eq_true.mp small_pln c h1
theorem fld_plain {x : Str} (h : isFieldName (.str x) = true) : Pln x := by
  simp only [isFieldName, isWordN, Bool.and_eq_true] at h
  exact small_plain h.2
def fvL (v : FV) : List PyData := [.str v.n, .str v.m, (match v.t with | none => .none | some x => .str x), .int v.d, .tuple (v.w.map PyData.str)]
def fvD (v : FV) : PyData := .list (fvL v)
/-- the texts of a field are plain -/
structure FvP (v : FV) : Prop where
  n : Pln v.n
  m : Pln v.m
  t : ∀ x, v.t = some x → Pln x
  w : ∀ x ∈ v.w, Pln x
  l : v.w.length ≤ 2
theorem none_noC : 44 ∉ (PyData.shown .none).cps.toList := by decide +kernel
theorem int_noC (i : Int) : 44 ∉ (PyData.shown (.int i)).cps.toList := fun h => int_no (i := i) (x := PyData.shown (.int i)) (k := 44) (by decide) h rfl
theorem fv_noC {v : FV} (h : FvP v) : NoC (PyData.shownAll (fvL v)) := by
  refine ⟨plain_noC h.n, plain_noC h.m, ?_, int_noC _, trivial⟩
  cases e : v.t with
  | none => exact none_noC
  | some x => exact plain_noC (h.t x e)
theorem el_t {v : FV} (h : FvP v) : El (match v.t with | none => .none | some x => .str x) := by
  cases e : v.t with
  | none => trivial
  | some x => exact h.t x e
theorem fv_shown {v u : FV} (hv : FvP v) (hu : FvP u) : decide ((fvD v).shown = (fvD u).shown) = decide (v = u) := by
  by_cases e : v = u
  · rw [e, decide_eq_true rfl, decide_eq_true rfl]
  · rw [decide_eq_false e, decide_eq_false]
    intro z
    apply e
    have q := list_inj (ds := fvL v) (es := fvL u) rfl (fv_noC hv) (fv_noC hu) z
    simp only [fvL, PyData.shownAll, List.cons.injEq, and_true] at q
    obtain ⟨a, b, c, d, f⟩ := q
    have a1 := el_inj (d := .str v.n) (e := .str u.n) hv.n hu.n a
    have b1 := el_inj (d := .str v.m) (e := .str u.m) hv.m hu.m b
    have c1 := el_inj (el_t hv) (el_t hu) c
    have d1 := el_inj (d := .int v.d) (e := .int u.d) trivial trivial d
    have f1 := tup_inj hv.l hu.l hv.w hu.w f
    injection a1 with a1
    injection b1 with b1
    injection d1 with d1
    have c2 : v.t = u.t := by
      cases e1 : v.t <;> cases e2 : u.t <;> rw [e1, e2] at c1 <;> cases c1 <;> rfl
    cases v
    cases u
    simp only at a1 b1 c2 d1 f1
    rw [a1, b1, c2, d1, f1]
section
variable {K : PySem.W.Frag} {H : Hp} {l : Addr} {un um ut ud uw : V} {n m t d w : PyData}
/-- what a right field holds, and how it is told -/
theorem Pts5.right (p : Pts5 K H l un um ut ud uw n m t d w) (pn : PlnD n) (pm : PlnD m) (e : fieldRight n m t d w = true) : ∃ v : FV, un = .str v.n ∧ um = .str v.m ∧ ut = tv v.t ∧ ud = .int v.d ∧ v.w = txtsOf w ∧ SeqAt.shaped (.tuple (v.w.map PyData.str)) = true ∧
    FvP v ∧ toldD n m t d w true = fvD v := by
  obtain ⟨v, rfl, rfl, rfl, rfl, rfl, e6, e7⟩ := p.fv e
  obtain ⟨ds, e8, e9⟩ := txtsOf_eq e
  obtain ⟨y, rfl, ey⟩ : ∃ y : Str, m = .str y ∧ y = v.m := by
    have q := p.qm
    cases q with
    | dat q _ => cases q; exact ⟨_, rfl, rfl⟩
  obtain ⟨i, rfl, ei⟩ : ∃ i, d = .int i ∧ i = v.d := by
    have q := p.qd
    cases q with
    | dat q _ => cases q; exact ⟨_, rfl, rfl⟩
  have et : t = (match v.t with | none => PyData.none | some x => .str x) := by
    have q := p.qt
    cases h : v.t with
    | none =>
      rw [h] at q
      cases q with
      | dat q _ => cases q; rfl
    | some x =>
      rw [h] at q
      cases q with
      | dat q _ => cases q; rfl
  refine ⟨v, rfl, rfl, rfl, rfl, e6, e7, ⟨pn, by rw [← ey]; exact pm, fun x hx => ?_, fun x hx => ?_, ?_⟩, ?_⟩
  · have q := p.pt
    rw [et, hx] at q
    exact q
  · have q := e
    obtain ⟨ds', z1, z2⟩ := right_was q
    rw [e8] at z1
    obtain rfl := Option.some.inj z1
    have z3 := List.all_eq_true.mp z2 (.str x) (by rw [e9, ← e6]; exact List.mem_map_of_mem hx)
    exact fld_plain z3
  · have q := e
    simp only [fieldRight, wasRight, e8, Bool.and_eq_true, decide_eq_true_eq] at q
    have z := q.2.1.1.1
    rw [e9, List.length_map] at z
    rw [e6]
    exact z
  · show PyData.list _ = _
    rw [fvD, fvL, ← ey, ← ei, e6, ← et]
end
end Wp
set_option Elab.async false
set_option linter.all false
set_option maxRecDepth 100000
set_option maxHeartbeats 4000000
namespace Wp
open PySem PySem.Spec PyProof.Rows L2
/-! ## fields, asked -/
abbrev lFA : Stmt := top 53
abbrev nFA : List Str := ["_law_pen_here", "_law_names", "_law_pool", "_law_parts", "_law_short", "_law_again", "_law_at", "_law_one", "_law_other", "_law_due"]
def spFA (K : PySem.W.Frag) : Sp := fun vs H Q _ => ∃ (p c : Addr) (ns : List Int) (qn qp : Addr) (ks ws : List Str), vs = [.ref p, .ref qn, .ref qp] ∧ Pn p c ns H ∧ Names K H qn ks ∧ ks.length = 3 ∧ Pool K H qp ws ∧ ws.length = 12 ∧
  ∀ H' : Hp, Go p c ns H H' → Q (.bl true) H'
theorem paired5 {α β : Type} {F : α → β → Prop} {xs : List α} {ys : List β} (h : Paired F xs ys) (l : ys.length = 5) : ∃ x0 x1 x2 x3 x4 y0 y1 y2 y3 y4, xs = [x0, x1, x2, x3, x4] ∧ ys = [y0, y1, y2, y3, y4] ∧ F x0 y0 ∧ F x1 y1 ∧ F x2 y2 ∧ F x3 y3 ∧ F x4 y4 := by
  cases h with
  | nil => cases l
  | cons a h => cases h with
    | nil => cases l
    | cons b h => cases h with
      | nil => cases l
      | cons c h => cases h with
        | nil => cases l
        | cons d h => cases h with
          | nil => cases l
          | cons e h => cases h with
            | nil => exact ⟨_, _, _, _, _, _, _, _, _, _, rfl, rfl, a, b, c, d, e⟩
            | cons _ _ => cases l
/-- a list that was drawn stands at a place of its own -/
theorem VdL.own {K : PySem.W.Frag} {H0 H : Hp} {l : Addr} {v : V} {ds : List PyData} (h : VdL K H0 H l v (.list ds)) : ∃ (a : Addr) (us : List V), v = .ref a ∧ H a = some (.lst us) ∧ us.length ≤ 4 ∧ H0 a = none ∧ a ≠ l := by
  have q := h (fun b => if b = l then none else match H0 b with | none => H b | some _ => none) fun b o n1 n2 e => by
    simp only [if_neg n2, n1, e]
  obtain ⟨a, us, e1, e2, e3, _⟩ := q.o.1 ds rfl
  refine ⟨a, us, e1, ?_⟩
  by_cases z : a = l
  · simp only [if_pos z] at e2
    cases e2
  · simp only [if_neg z] at e2
    cases e4 : H0 a with
    | some o =>
      simp only [e4] at e2
      cases e2
    | none =>
      simp only [e4] at e2
      exact ⟨e2, e3, rfl, z⟩
theorem iteC {c : Bool} {A B : Prop} (hc : c = true) (h : A) : if c = true then A else B := by
  rw [if_pos hc]
  exact h
/-- the fields' own == -/
structure EqF (P : Program) (w : World) (K : PySem.W.Frag) (mg : Str → Option Value) (base : Heap) (CF fE : Addr) (fdE : FuncData) : Prop where
  ok : FnOk P w K mg base CX0 1 fE fdE ["self", "other"] (spFE K CF)
  bi : Binds K fdE ["self", "other"] []
  own : OwnEqual K CF fE
  n1 : PySem.W.notFirst K CF (.ref CF) = true
  n2 : PySem.W.notFirst K CF (.type "tuple") = true
section
variable {P : Program} {w : World} {K : PySem.W.Frag} {mg : Str → Option Value} {base : Heap}
theorem scFA : FnScope nFA ["_law_pen_here", "_law_names", "_law_pool"] (defScope lFA) := ⟨rfl, rfl, rfl, by decide +kernel, rfl, by decide +kernel, by decide +kernel⟩
theorem ok_FA {f f1 f2 f3 f4 f5 f6 f7 CF fE : Addr} {fd fd1 fd2 fd3 fd4 fd5 fd6 fd7 fdE : FuncData} (F : Fun K "_law_fields_asked" "_law_fields_asked" lFA f fd) (B : Bn mg) (T : Known P w K mg base CX0 1 "_law_take" ["_law_pen_here", "_law_bound"] spTake f1 fd1)
    (FP : Known P w K mg base CX0 4 "_law_field_parts" ["_law_pen_here", "_law_names", "_law_pool", "_law_spoils"] (spFP K) f2 fd2) (FR : KnownQ P w K mg base 4 "_law_field_right" ["_law_parts"] (spFR K) f3 fd3)
    (MF : Known P w K mg base CX0 6 "_law_made_field" ["_law_parts"] (spMF K CF) f4 fd4) (FT : Known P w K mg base CX0 6 "_law_field_told" ["_law_parts", "_law_short"] (spFT K) f5 fd5) (FD : KnownQ P w K mg base 5 "_law_field_due" ["_law_parts"] (spFD K) f6 fd6)
    (SM : KnownQ P w K mg base 1 "_law_same" ["_law_one", "_law_other"] (spSameQ K) f7 fd7) (EQ : EqF P w K mg base CF fE fdE) : GOk P w K mg base CX0 7 f fd ["_law_pen_here", "_law_names", "_law_pool"] (spFA K) := by
  refine gok_of F scFA (fun vs H Q E h => ?_) (fun cdv A outer s H vs Q E hG hr h => ?_)
  · obtain ⟨p, c, ns, qn, qp, ks, ws, rfl, _⟩ := h
    rfl
  · obtain ⟨p, c, ns, qn, qp, ks, ws, rfl, pn, nm, lk, po, lw, k⟩ := h
    refine ⟨_, pss_cons (ps_set (i := 3) scFA.nd rfl (.inl rfl) (pe_call FP.ok (hr.mono (by decide)) rfl FP.mg FP.kp FP.bi .nil pass0 (pa_cons (pv 0) (pa_cons (pv 1) (pa_cons (pv 2) (pa_cons pe_int pa_nil))))))
      (pss_cons (ps_set (i := 4) scFA.nd rfl (.inl rfl) (pe_lst (pa_cons (pe_ix ix_list (pv 3) pe_int (fun _ _ => rfl)) (pa_cons (pe_ix ix_list (pv 3) pe_int (fun _ _ => rfl)) (pa_cons pe_non (pa_cons pe_int (pa_cons (pe_tup pa_nil) pa_nil)))))))
      (pss_cons (ps_if (pt_not (pt_val (pe_callG hG SM.ok (hr.mono (by decide)) rfl SM.mg SM.kp SM.bi pass0 (pa_cons (pe_call FT.ok (hr.mono (by decide)) rfl FT.mg FT.kp FT.bi .nil pass0 (pa_cons (pv 3) (pa_cons pe_bl pa_nil)))
          (pa_cons (pe_callG hG FD.ok (hr.mono (by decide)) rfl FD.mg FD.kp FD.bi pass0 (pa_cons (pv 3) pa_nil)) pa_nil))))) (pss_one (ps_ret pe_bl)) pss_nil)
      (pss_cons (ps_if (pt_not (pt_val (pe_callG hG SM.ok (hr.mono (by decide)) rfl SM.mg SM.kp SM.bi pass0 (pa_cons (pe_call FT.ok (hr.mono (by decide)) rfl FT.mg FT.kp FT.bi .nil pass0 (pa_cons (pv 4) (pa_cons pe_bl pa_nil)))
          (pa_cons (pe_callG hG FD.ok (hr.mono (by decide)) rfl FD.mg FD.kp FD.bi pass0 (pa_cons (pv 4) pa_nil)) pa_nil))))) (pss_one (ps_ret pe_bl)) pss_nil)
      (pss_cons (ps_set (i := 5) scFA.nd rfl (.inl rfl) (pe_callTy call_list_of (by rfl) B.list PyProof.Rows.boot_list (pa_cons (pv 3) pa_nil)))
      (pss_cons (ps_set (i := 6) scFA.nd rfl (.inl rfl) (pe_call T.ok (hr.mono (by decide)) rfl T.mg T.kp T.bi .nil pass0 (pa_cons (pv 0) (pa_cons pe_int pa_nil))))
      (pss_cons (ps_asg (pe_ix ix_list (pe_call FP.ok (hr.mono (by decide)) rfl FP.mg FP.kp FP.bi .nil pass0 (pa_cons (pv 0) (pa_cons (pv 1) (pa_cons (pv 2) (pa_cons pe_int pa_nil))))) (pv 6) (fun _ _ => rfl)) (pg_sub (pv 5) (pv 6) set_list))
      (pss_cons (ps_if (PW.pt (pw_or (pt_not (pt_val (pe_callG hG FR.ok (hr.mono (by decide)) rfl FR.mg FR.kp FR.bi pass0 (pa_cons (pv 3) pa_nil)))) (pw_or1 (pt_not (pt_val (pe_callG hG FR.ok (hr.mono (by decide)) rfl FR.mg FR.kp FR.bi pass0 (pa_cons (pv 5) pa_nil)))))))
          (pss_one (ps_ret pe_bl)) pss_nil)
      (pss_cons (ps_set (i := 7) scFA.nd rfl (.inl rfl) (pe_call MF.ok (hr.mono (by decide)) rfl MF.mg MF.kp MF.bi .nil pass0 (pa_cons (pv 3) pa_nil)))
      (pss_cons (ps_set (i := 8) scFA.nd rfl (.inl rfl) (pe_call MF.ok (hr.mono (by decide)) rfl MF.mg MF.kp MF.bi .nil pass0 (pa_cons (pv 5) pa_nil)))
      (pss_cons (ps_set (i := 9) scFA.nd rfl (.inl rfl) (pe_callG hG SM.ok (hr.mono (by decide)) rfl SM.mg SM.kp SM.bi pass0 (pa_cons (pe_callG hG FD.ok (hr.mono (by decide)) rfl FD.mg FD.kp FD.bi pass0 (pa_cons (pv 3) pa_nil))
          (pa_cons (pe_callG hG FD.ok (hr.mono (by decide)) rfl FD.mg FD.kp FD.bi pass0 (pa_cons (pv 5) pa_nil)) pa_nil))))
      (pss_cons (ps_if (pt_val (pe_callB call_isi (by rfl) B.isi boot_isi (pa_cons (pe_ix ix_list (pv 3) pe_int (fun _ _ => rfl)) (pa_cons (pe_bltn (v := .ty "list") (by rfl) B.list PyProof.Rows.boot_list rfl) pa_nil))))
          (pss_one (ps_expr (pe_bm PySem.F.plainAttrs_list PySem.F.slot_list_append PySem.F.type_list_append mt_append (pe_ix ix_list (pv 3) pe_int (fun _ _ => rfl)) (pa_cons pe_str pa_nil)))) pss_nil)
      (pss_one (ps_ret (pe_and (pe_cmpR op_eq (pe_cmpR (op_ownEq EQ.ok EQ.bi pass0 EQ.own (hr.mono (by decide))) (pv 7) (pv 8) (nomark _)) (pv 9) (nomark _))
        (pe_and (pe_cmpR op_eq (pe_cmpR (op_ownEq EQ.ok EQ.bi pass0 EQ.own (hr.mono (by decide))) (pv 8) (pv 7) (nomark _)) (pv 9) (nomark _))
        (pe_and (pe_cmpR op_ne (pe_cmpR (op_ownNe EQ.ok EQ.bi pass0 EQ.own (hr.mono (by decide))) (pv 7) (pv 8) (nomark _)) (pv 9) (nomark _))
        (pe_one (pe_cmpR (op_ownNe EQ.ok EQ.bi pass0 EQ.own (hr.mono (by decide))) (pv 7) (pe_callTy call_tuple_of (by rfl) B.tuple boot_ttuple (pa_cons (pv 5) pa_nil)) (nomark _))))))))))))))))))), ?_⟩
    refine ⟨_, rfl, _, rfl, _, rfl, p, c, ns, qn, qp, ks, ws, 3, rfl, pn, nm, lk, po, lw, by decide, by decide, fun l us ds H1 nl pa g1 => ?_⟩
    obtain ⟨un, um, ut, ud, uw, n, m, t, d, wd, rfl, rfl, vn, vm, vt, vd, vw⟩ := pa.five
    have p1 := pts_of (SqL.of pa.eq) vn.here vm.here vt.here vd.here vw.here
    refine ⟨_, rfl, l, _, _, _, rfl, rfl, p1.at_, atI_nat (j := 0) rfl, _, rfl, l, _, _, _, rfl, rfl, p1.at_, atI_nat (j := 1) rfl, by show 0 ≤ sizeLine; decide, fun t0 h0 => ⟨by show 5 ≤ sizeLine; decide, fun l2 hl2 => ?_⟩⟩
    have sa := same_new (o := HO.tup []) h0
    have ea : upd H1 t0 (.tup []) t0 = some (.tup []) := upd_same
    generalize upd H1 t0 (.tup []) = Ha at sa ea hl2 ⊢
    have sb := same_new (o := HO.lst [un, um, .non, .int 0, .ref t0]) hl2
    have eb : upd Ha l2 (.lst [un, um, .non, .int 0, .ref t0]) l2 = some (.lst [un, um, .non, .int 0, .ref t0]) := upd_same
    have ea := sb _ _ ea
    generalize upd Ha l2 (.lst [un, um, .non, .int 0, .ref t0]) = H2 at sb eb ea ⊢
    have s2 := sa.trans sb
    have q1 : Pts5 K H2 l2 un um .non (.int 0) (.ref t0) n m .none (.int 0) (.tuple []) := pts_of (SqL.of eb) (vn.here.same s2) (vm.here.same s2) vd_none (vd_int (by decide)) (vd_tup ea .nil (by decide))
    refine ⟨_, rfl, ?_⟩
    dsimp only [tCons, L2.tC, tNil, List.append_nil]
    refine ft_of (p1.same s2) (fun e => by cases e) fun H3 a3 s3 t3 => ⟨_, rfl, ?_⟩
    dsimp only [tCons, L2.tC, tNil, List.append_nil]
    refine fd_of ((p1.same s2).same s3) fun H4 a4 s4 t4 => ?_
    obtain ⟨d3, z3⟩ := told_dr (p1.same s2) vn.here.s vm.here.s vt.here.s vd.here.s vw.here.s (s3.trans s4) (t3.same s4)
    obtain ⟨d4, z4⟩ := told_dr (p1.same s2) vn.here.s vm.here.s vt.here.s vd.here.s vw.here.s (s3.trans s4) t4
    refine ⟨_, _, _, _, rfl, d3, d4, z3, z4, ⟨_, rfl, ?_⟩⟩
    rw [decide_eq_true (p := (toldD n m t d wd (fieldRight n m t d wd)).shown = (toldD n m t d wd (fieldRight n m t d wd)).shown) rfl]
    refine iteF ?_
    -- the short one
    have s24 := s3.trans s4
    have q1 := q1.same s24
    have vn4 := (vn.here.same s2).same s24
    have vm4 := (vm.here.same s2).same s24
    have p4 := (p1.same s2).same s24
    clear d3 d4 z3 z4 t3 t4
    refine ⟨_, rfl, ?_⟩
    dsimp only [tCons, L2.tC, tNil, List.append_nil]
    refine ft_of q1 (fun _ => ⟨rfl, rfl, rfl, rfl, rfl⟩) fun H5 a5 s5 t5 => ⟨_, rfl, ?_⟩
    dsimp only [tCons, L2.tC, tNil, List.append_nil]
    refine fd_of (q1.same s5) fun H6 a6 s6 t6 => ?_
    have sl0 : Sl (.int 0) := sl_int (by decide)
    have slt : Sl (.tuple []) := ⟨rfl, by decide, rfl, by decide⟩
    obtain ⟨d5, z5⟩ := told_dr q1 vn4.s vm4.s sl_none sl0 slt (s5.trans s6) (t5.same s6)
    obtain ⟨d6, z6⟩ := told_dr q1 vn4.s vm4.s sl_none sl0 slt (s5.trans s6) t6
    refine ⟨_, _, _, _, rfl, d5, d6, z5, z6, ⟨_, rfl, ?_⟩⟩
    rw [decide_eq_true (p := (toldD n m .none (.int 0) (.tuple []) (fieldRight n m .none (.int 0) (.tuple []))).shown = (toldD n m .none (.int 0) (.tuple []) (fieldRight n m .none (.int 0) (.tuple []))).shown) rfl]
    refine iteF ?_
    have s16 : Same H1 H6 := (s2.trans s24).trans (s5.trans s6)
    have p6 := p1.same s16
    clear d5 d6 z5 z6 t5 t6 sl0 slt p4 q1 vn4 vm4 s24 s5 s6 s3 s4 sa sb s2 ea eb
    have el6 := s16 _ _ pa.eq
    have g6 : Go p c ns H H6 := g1.trans (Go.of g1.pn s16)
    -- again
    refine ⟨_, rfl, l, _, rfl, .inl (SqL.of el6), fun lg nlg => ?_⟩
    have s7 := same_new (o := HO.lst [un, um, ut, ud, uw]) nlg
    have e7 : upd H6 lg (.lst [un, um, ut, ud, uw]) lg = some (.lst [un, um, ut, ud, uw]) := upd_same
    have nll : l ≠ lg := fun z => by rw [← z, el6] at nlg; cases nlg
    generalize upd H6 lg (.lst [un, um, ut, ud, uw]) = H7 at s7 e7 ⊢
    have g7 : Go p c ns H H7 := g6.trans (Go.of g6.pn s7)
    refine ⟨_, rfl, ?_⟩
    dsimp only [tCons, L2.tC, tNil, List.append_nil]
    refine take_go (b := 5) g7.pn (by decide) (by decide) fun at_ H8 a0 a1 g8 => ?_
    obtain ⟨j, rfl⟩ := Int.eq_ofNat_of_zero_le a0
    have hj : j < 5 := by omega
    have hk (b : Addr) (o : HO) (np : b ≠ p) (q : H1 b = some o) : H8 b = some o := g8.but b o np (s7 _ _ (s16 _ _ q))
    have g08 := g7.trans g8
    refine ⟨_, rfl, _, rfl, _, rfl, p, c, ns, qn, qp, ks, ws, 0, rfl, g8.pn, nm.go pn g08, lk, po.go pn g08, lw, by decide, by decide, fun l9 us9 ds9 H9 nl9 pa9 g9 => ?_⟩
    have l9u : us9.length = 5 := pa9.vd.length.trans pa9.len
    obtain ⟨x9, ex9⟩ : ∃ x, us9[j]? = some x := ⟨us9[j]'(by omega), List.getElem?_eq_getElem _⟩
    obtain ⟨d9, ed9, vd9⟩ := paired_get pa9.vd ex9
    have e8 := g8.but _ _ (Go.ne g7.pn e7 (by intro x z; cases z)) e7
    have e9 := g9.but _ _ (Go.ne g8.pn e8 (by intro x z; cases z)) e8
    refine ⟨_, rfl, l9, _, _, _, rfl, rfl, SqL.of pa9.eq, atI_nat ex9, _, rfl, _, rfl, lg, [un, um, ut, ud, uw], _, j, rfl, rfl, e9, ?_, ?_⟩
    · show ixN 5 ((j : Nat) : Int) = some j
      rw [ixN, if_pos (by omega), if_pos (by omega)]
      rfl
    have n1g : H1 lg = none := none_of s16 nlg
    have g09 := g08.trans g9
    have npl : l ≠ p := Go.ne g1.pn pa.eq (by intro x z; cases z)
    have npg : lg ≠ p := Go.ne g7.pn e7 (by intro x z; cases z)
    have up (b : Addr) (o : HO) (np : b ≠ p) (q : H1 b = some o) : upd H9 lg (.lst ([un, um, ut, ud, uw].set j x9)) b = some o := by
      rw [upd_ne (ne_of_none q n1g)]
      exact g9.but _ _ np (hk b o np q)
    have wn := (VdL.step pn vn fun b o np _ q => up b o np q).here
    have wm := (VdL.step pn vm fun b o np _ q => up b o np q).here
    have wt := (VdL.step pn vt fun b o np _ q => up b o np q).here
    have wd_ := (VdL.step pn vd fun b o np _ q => up b o np q).here
    have ww := (VdL.step pn vw fun b o np _ q => up b o np q).here
    have w9 : Vd K (upd H9 lg (.lst ([un, um, ut, ud, uw].set j x9))) x9 d9 := vd9 _ fun b o z _ q => by
      rw [upd_ne (fun y => by rw [y, e8] at z; cases z)]
      exact q
    have own : ∀ ds, wd = .list ds → ∃ (a : Addr) (us : List V), uw = .ref a ∧ upd H9 lg (.lst ([un, um, ut, ud, uw].set j x9)) a = some (.lst us) ∧ us.length ≤ 4 ∧ H a = none ∧ a ≠ lg := fun ds e => by
      subst e
      obtain ⟨a, us, e1, e2, e3, e4, e5⟩ := vw.own
      exact ⟨a, us, e1, up a _ (Go.ne g1.pn e2 (by intro x z; cases z)) e2, e3, e4, ne_of_none e2 n1g⟩
    have ps : Paired (Vd K (upd H9 lg (.lst ([un, um, ut, ud, uw].set j x9)))) ([un, um, ut, ud, uw].set j x9) ([n, m, t, d, wd].set j d9) := paired_set j (.cons wn (.cons wm (.cons wt (.cons wd_ (.cons ww .nil))))) w9
    have el := up l _ npl pa.eq
    have eg : upd H9 lg (.lst ([un, um, ut, ud, uw].set j x9)) lg = some (.lst ([un, um, ut, ud, uw].set j x9)) := upd_same
    have gX : Go p c ns H (upd H9 lg (.lst ([un, um, ut, ud, uw].set j x9))) := Go.over pn g09 (Go.none g6 nlg)
    generalize upd H9 lg (.lst ([un, um, ut, ud, uw].set j x9)) = HA at *
    obtain ⟨yn, ym, yt, yd, yw, n', m', t', d', w', eys, eds, zn, zm, zt, zd, zw⟩ := paired5 ps (by rw [List.length_set]; rfl)
    rw [eys] at eg
    clear eys eds ps up hk w9 e8 e9 e7 p1 p6 vn vm vt vd vw pa pa9 g8 g9 g08 g09 s16 s7
    have pA := pts_of (SqL.of el) wn wm wt wd_ ww
    have pG := pts_of (SqL.of eg) zn zm zt zd zw
    refine ⟨_, rfl, ?_⟩
    dsimp only [tCons, L2.tC, tNil, List.append_nil]
    refine pA.fr fun HB sB => ⟨_, rfl, ?_⟩
    cases er : fieldRight n m t d wd with
    | false => exact k HB (gX.trans (Go.of gX.pn sB))
    | true =>
    refine ⟨_, rfl, ?_⟩
    dsimp only [tCons, L2.tC, tNil, List.append_nil]
    refine (pG.same sB).fr fun HC sC => ⟨_, rfl, ?_⟩
    have gC := gX.trans (Go.of gX.pn (sB.trans sC))
    cases er' : fieldRight n' m' t' d' w' with
    | false => exact k HC gC
    | true =>
    have sAC := sB.trans sC
    have pA := pA.same sAC
    have pG := pG.same sAC
    have el := sAC _ _ el
    have eg := sAC _ _ eg
    refine ⟨_, rfl, ?_⟩
    dsimp only [tCons, L2.tC, tNil, List.append_nil]
    refine ⟨l, _, _, _, _, _, _, _, _, _, _, rfl, pA, er, fun HD x dx T sD nx hx sT => ⟨_, rfl, ?_⟩⟩
    dsimp only [tCons, L2.tC, tNil, List.append_nil]
    have pG2 := pG.same sD
    have pA2 := pA.same sD
    refine ⟨lg, _, _, _, _, _, _, _, _, _, _, rfl, pG2, er', fun HE y dy T' sE ny hy sT' => ⟨_, rfl, ?_⟩⟩
    obtain ⟨fv, q2, q3, q4, q5, q6, q7, fp, fd_⟩ := pA.right wn.p wm.p er
    obtain ⟨fu, r2, r3, r4, r5, r6, r7, gp, gd_⟩ := pG.right zn.p zm.p er'
    have fx : FieldAt K CF HD x fv := ⟨⟨dx, T, by rw [hx, q2, q3, q4, q5], by rw [q6]; exact sT⟩, q7⟩
    have fx := fx.sameF sE
    have fy : FieldAt K CF HE y fu := ⟨⟨dy, T', by rw [hy, r2, r3, r4, r5], by rw [r6]; exact sT'⟩, r7⟩
    have sCE := sD.trans sE
    have gE := gC.trans (Go.of gC.pn sCE)
    have pA3 := pA2.same sE
    have pG3 := pG2.same sE
    dsimp only [tCons, L2.tC, tNil, List.append_nil]
    refine fd_of pA3 fun HF aF sF tF => ⟨_, rfl, ?_⟩
    dsimp only [tCons, L2.tC, tNil, List.append_nil]
    refine fd_of (pG3.same sF) fun HG aG sG tG => ?_
    obtain ⟨dF, zF⟩ := told_dr pA3 wn.s wm.s wt.s wd_.s ww.s (sF.trans sG) (tF.same sG)
    obtain ⟨dG, zG⟩ := told_dr (pG3.same sF) zn.s zm.s zt.s zd.s zw.s sG tG
    rw [er, fd_] at dF zF
    rw [er', gd_] at dG zG
    refine ⟨_, _, _, _, rfl, dF, dG, zF, zG, ?_⟩
    rw [fv_shown fp gp]
    have sEG := sF.trans sG
    have fx := fx.sameF sEG
    have fy := fy.sameF sEG
    have gG := gE.trans (Go.of gE.pn sEG)
    have sAG := (sAC.trans sCE).trans sEG
    have ww := ww.same sAG
    have el := (sCE.trans sEG) _ _ el
    have eg := (sCE.trans sEG) _ _ eg
    have sAG' := sAG
    clear dF dG zF zG tF tG pA3 pG3 pA2 pG2 pA pG gE gC gX sAC sCE sEG sAG sB sC sD sE sF sG fp gp
    refine ⟨_, rfl, l, _, _, _, rfl, rfl, SqL.of el, atI_nat (j := 4) rfl, _, _, _, _, _, rfl, .ty "list", ww.q.ty, kit_list _, _, rfl, ?_⟩
    have own : ∀ ds, wd = .list ds → ∃ (a : Addr) (us : List V), uw = .ref a ∧ HG a = some (.lst us) ∧ us.length ≤ 4 ∧ H a = none ∧ a ≠ lg := fun ds e => by
      obtain ⟨a, us, e1, e2, e3⟩ := own ds e
      exact ⟨a, us, e1, sAG' _ _ e2, e3⟩
    have fin1 : decide (V.bl (decide (fv = fu)) = V.bl (decide (fv = fu))) = true := decide_eq_true rfl
    have fin2 : decide (V.bl (decide (fu = fv)) = V.bl (decide (fv = fu))) = true := decide_eq_true (by rw [decide_eq_decide.mpr (eq_comm (a := fu) (b := fv))])
    have fin3 : decide (V.bl (if true = true then !decide (fv = fu) else decide (fv = fu)) = V.bl (decide (fv = fu))) = false := by cases decide (fv = fu) <;> rfl
    cases eL : isLst wd
    refine iteF ?_
    rotate_left
    obtain ⟨ds, rfl⟩ : ∃ ds, wd = .list ds := by
      cases wd <;> first | exact ⟨_, rfl⟩ | cases eL
    obtain ⟨c4, us4, rfl, e4, l4, n4, ng4⟩ := own _ rfl
    refine iteT ?_
    refine ⟨_, rfl, l, _, _, _, rfl, rfl, SqL.of el, atI_nat (j := 4) rfl, .inl ⟨rfl, _, SqL.of e4⟩, c4, us4, _, rfl, rfl, e4, by rw [sizeLine_eq]; omega, ?_⟩
    have fx := fx.app (o := .lst (us4 ++ [.str "zz"])) e4
    have fy := fy.app (o := .lst (us4 ++ [.str "zz"])) e4
    have eg : upd HG c4 (.lst (us4 ++ [.str "zz"])) lg = _ := (upd_ne (Ne.symm ng4)).trans eg
    have gG : Go p c ns H (upd HG c4 (.lst (us4 ++ [.str "zz"]))) := Go.over pn gG n4
    generalize upd HG c4 (.lst (us4 ++ [.str "zz"])) = HZ at fx fy eg gG ⊢
    all_goals
      obtain ⟨⟨dx1, tx1, ex1, _⟩, _⟩ := id fx
      obtain ⟨⟨dy1, ty1, ey1, _⟩, _⟩ := id fy
      refine ⟨_, rfl, _, rfl, x, _, _, rfl, ex1, .ins y CF _ _ ey1 EQ.n1, ⟨x, _, fv, rfl, fx, .inl ⟨y, fu, rfl, fy, _, rfl, _, rfl, rfl, _, rfl, ?_⟩⟩⟩
      refine iteC fin1 ?_
      refine ⟨_, rfl, _, rfl, y, _, _, rfl, ey1, .ins x CF _ _ ex1 EQ.n1, ⟨y, _, fu, rfl, fy, .inl ⟨x, fv, rfl, fx, _, rfl, _, rfl, rfl, _, rfl, ?_⟩⟩⟩
      refine iteC fin2 ?_
      refine ⟨_, rfl, _, rfl, x, _, _, rfl, ex1, .ins y CF _ _ ey1 EQ.n1, ⟨x, _, fv, rfl, fx, .inl ⟨y, fu, rfl, fy, _, rfl, _, rfl, rfl, _, rfl, ?_⟩⟩⟩
      refine iteC (by rw [fin3]; rfl) ?_
      refine ⟨_, rfl, _, rfl, lg, _, rfl, .inl ⟨SqL.of eg, fun tq ntq => ?_⟩⟩
      have sq := same_new (o := HO.tup [yn, ym, yt, yd, yw]) ntq
      have fx := fx.sameF sq
      have ex1 := sq _ _ ex1
      have gQ := gG.trans (Go.of gG.pn sq)
      refine ⟨x, _, _, rfl, ex1, .tup tq _ (SqT.of upd_same) EQ.n2, ⟨x, _, fv, rfl, fx, .inr ⟨tq, _, rfl, SqT.of upd_same, _, rfl, ?_⟩⟩⟩
      exact k _ gQ
end
end Wp
set_option Elab.async false
set_option linter.all false
set_option maxRecDepth 100000
set_option maxHeartbeats 4000000
namespace L2
open PySem PySem.Spec PyProof.Rows
/-! A block is cut behind a statement: what holds there is said once, whatever way led to it. -/
def tCut (t u : TS) : TS := fun D σ H => ∃ W : L2.St → Hp → Prop, t { D with nx := W } σ H ∧ ∀ σ' H', W σ' H' → u D σ' H'
theorem pss_cut {X : Cx} {st : Stmt} {rest : List Stmt} {t u : TS} (h1 : PS X st t) (h2 : PSs X rest u) : PSs X (st :: rest) (tCut t u) := by
  refine ⟨fun pins s σ H D I h => ?_⟩
  obtain ⟨W, hW, hN⟩ := h
  refine wpAny_execs_cons (thn (h1.run pins s σ H { D with nx := W } I hW) fun f s1 q => ?_)
  cases f with
  | next =>
    obtain ⟨σ', H', I', q⟩ := q
    exact h2.run pins s1 σ' H' D I' (hN σ' H' q)
  | ret v => exact q
  | brk => exact q
  | cont => exact q
end L2
set_option Elab.async false
set_option linter.all false
set_option maxRecDepth 100000
set_option maxHeartbeats 4000000
namespace Wp
open PySem PySem.Spec PyProof.Rows L2
/-! ## the parts of a kind -/
/-- a thing that is never written -/
def Still : HO → Prop
  | .ins _ _ _ => True
  | .tup _ => True
  | .frz _ _ => True
  | _ => False
/-- new things other than l stand, and what is never written -/
structure Evo (H0 H H'' : Hp) (l : Addr) : Prop where
  nw : ∀ b o, H0 b = none → b ≠ l → H b = some o → H'' b = some o
  st : ∀ b o, Still o → H b = some o → H'' b = some o
inductive FsV (K : PySem.W.Frag) (CF : Addr) (H : Hp) : V → List Item → Prop
  | lst {a : Addr} {us : List V} {its : List Item} : H a = some (.lst us) → Paired (ItAt K CF H) us its → FsV K CF H (.ref a) its
  | tup {a : Addr} {us : List V} {its : List Item} : H a = some (.tup us) → Paired (ItAt K CF H) us its → FsV K CF H (.ref a) its
/-- one of the seven: data, or the fields -/
inductive Part
  | d (x : PyData)
  | fs (its : List Item)
def PartL (K : PySem.W.Frag) (CF : Addr) (H0 H : Hp) (l : Addr) (u : V) : Part → Prop
  | .d x => VdL K H0 H l u x
  | .fs its => its.length ≤ 11 ∧ (∀ H'', Evo H0 H H'' l → FsV K CF H'' u its) ∧ ∀ a us, u = .ref a → H a = some (.lst us) → H0 a = none ∧ a ≠ l
variable {K : PySem.W.Frag} {CF : Addr} {H0 H H' : Hp} {l p c : Addr} {ns : List Int}
theorem Evo.refl : Evo H0 H H l := ⟨fun _ _ _ _ e => e, fun _ _ _ e => e⟩
theorem FieldAt.still {a : Addr} {v : FV} (h : FieldAt K CF H a v) (s : ∀ b o, Still o → H b = some o → H' b = some o) : FieldAt K CF H' a v := by
  obtain ⟨⟨dx, tw, e, sq⟩, sh⟩ := h
  refine ⟨⟨dx, tw, s _ _ trivial e, ?_⟩, sh⟩
  rcases sq with (sq | ⟨o, sq⟩) | sq
  · exact .inl (.inl (s _ _ trivial sq))
  · exact .inl (.inr ⟨o, s _ _ trivial sq⟩)
  · exact .inr sq
def fsOf : PyData → Option (List Item)
  | .list ds => some (ds.map .d)
  | .tuple ds => some (ds.map .d)
  | _ => none
def Part.fsO : Part → Option (List Item)
  | .d x => fsOf x
  | .fs its => some its
theorem length_weight : ∀ ds : List PyData, ds.length ≤ PyData.weightAll ds
  | [] => Nat.zero_le _
  | x :: r => by
    have := length_weight r
    simp only [PyData.weightAll, List.length_cons]
    omega
theorem items_d {us : List V} {ds : List PyData} (h : DpAll K H us ds) (s : ∀ d ∈ ds, SeqAt.shaped d = true) : Paired (ItAt K CF H) us (ds.map Item.d) := by
  induction us generalizing ds with
  | nil => cases h; exact .nil
  | cons u us ih =>
    cases h with
    | cons a b => exact .cons (.dat a (s _ (List.mem_cons_self ..))) (ih b fun d m => s d (List.mem_cons_of_mem _ m))
theorem Vd.fsAt {v : V} {d : PyData} (h : Vd K H v d) : FsAt K CF H v (fsOf d) := by
  have few : ∀ ds, seqOf d = some ds → ds.length ≤ 1000 := fun ds e => by
    have w := h.s.wt
    have := length_weight ds
    cases d <;> cases e
    · simp only [PyData.weight] at w
      omega
    · simp only [PyData.weight] at w
      omega
  have q := h.q
  cases q with
  | dct e => exact ⟨.dict [], .dct e, rfl⟩
  | dat q sh =>
    cases q with
    | non => exact ⟨_, .dat .non sh, rfl⟩
    | bl b => exact ⟨_, .dat (.bl b) sh, rfl⟩
    | int i => exact ⟨_, .dat (.int i) sh, rfl⟩
    | str x => exact ⟨_, .dat (.str x) sh, rfl⟩
    | lst sq da => exact ⟨_, _, rfl, .inl sq, items_d da (shaped_item sh), by rw [List.length_map]; exact few _ rfl⟩
    | @tup a xs ds sq da =>
      refine ⟨_, _, rfl, .inr sq, items_d da (shaped_item ?_), by rw [List.length_map]; exact few _ rfl⟩
      simpa [SeqAt.shaped, PyData.canLay0, PyData.depth] using sh
theorem FsV.fsAt {v : V} {its : List Item} (h : FsV K CF H v its) (l : its.length ≤ 1000) : FsAt K CF H v (some its) := by
  cases h with
  | lst e q => exact ⟨_, _, rfl, .inl (SqL.of e), q, l⟩
  | tup e q => exact ⟨_, _, rfl, .inr (SqT.of e), q, l⟩
theorem PartL.fsAt {u : V} {q : Part} (h : PartL K CF H0 H l u q) : FsAt K CF H u q.fsO := by
  cases q with
  | d x => exact (VdL.here h).fsAt
  | fs its => exact (h.2.1 H Evo.refl).fsAt (by have := h.1; omega)
/-- what the fields' part is, and that a list there may be written -/
theorem PartL.ty {u : V} {q : Part} (h : PartL K CF H0 H l u q) : ∃ d : PyData, TyX K H u (.type (tyN d)) ∧ (isLst d || isTup d) = q.fsO.isSome ∧
    (isLst d = true → ∃ (a : Addr) (us : List V), u = .ref a ∧ H a = some (.lst us) ∧ us.length ≤ 11 ∧ H0 a = none ∧ a ≠ l) := by
  cases q with
  | d x =>
    refine ⟨x, (VdL.here h).q.ty, by cases x <;> rfl, fun e => ?_⟩
    obtain ⟨ds, rfl⟩ : ∃ ds, x = .list ds := by
      cases x <;> first | exact ⟨_, rfl⟩ | cases e
    obtain ⟨b, vs, e1, e2, e3, e4, e5⟩ := VdL.own h
    exact ⟨b, vs, e1, e2, by omega, e4, e5⟩
  | fs its =>
    obtain ⟨h1, h2, h3⟩ := h
    have q := h2 H Evo.refl
    cases q with
    | lst e2 q => exact ⟨.list [], SqL.ty (SqL.of e2), rfl, fun _ => ⟨_, _, rfl, e2, by rw [q.length]; exact h1, h3 _ _ rfl e2⟩⟩
    | tup e2 q => exact ⟨.tuple [], SqT.ty (SqT.of e2), rfl, fun e => by cases e⟩
/-- what goes on -/
theorem PartL.step {u : V} {q : Part} {xs : List V} (h : PartL K CF H0 H l u q) (pn : Pn p c ns H0) (pnH : Pn p c ns H) (hl : H l = some (.lst xs)) (e : ∀ b o, b ≠ p → b ≠ l → H b = some o → H' b = some o) : PartL K CF H0 H' l u q := by
  have st : ∀ b o, Still o → H b = some o → H' b = some o := fun b o s q => by
    refine e b o (fun z => ?_) (fun z => ?_) q
    · obtain ⟨a, r, d, m, t, S⟩ := pnH
      rw [z, S.pd] at q
      cases q
      exact s
    · rw [z, hl] at q
      cases q
      exact s
  have nw : ∀ b o, H0 b = none → b ≠ l → H b = some o → H' b = some o := fun b o n1 n2 q => by
    refine e b o (fun z => ?_) n2 q
    obtain ⟨a, r, d, m, t, S⟩ := pn
    rw [z, S.pd] at n1
    cases n1
  cases q with
  | d x => exact VdL.step pn h e
  | fs its =>
    obtain ⟨h1, h2, h3⟩ := h
    refine ⟨h1, fun H'' ev => h2 H'' ⟨fun b o n1 n2 q => ev.nw b o n1 n2 (nw b o n1 n2 q), fun b o s q => ev.st b o s (st b o s q)⟩, fun a us e1 e2 => ?_⟩
    have q := h2 H Evo.refl
    subst e1
    cases q with
    | lst e3 q => exact h3 _ _ rfl e3
    | tup e3 q =>
      have e4 := st _ (.tup _) trivial e3
      rw [e4] at e2
      cases e2
/-- the seven parts of a kind at l -/
structure KAt (K : PySem.W.Frag) (CF : Addr) (H0 H : Hp) (l : Addr) (us : List V) (qs : List Part) : Prop where
  eq : H l = some (.lst us)
  ps : Paired (PartL K CF H0 H l) us qs
  len : qs.length = 7
  dt : ∀ j q, j ≠ 1 → qs[j]? = some q → ∃ x, q = .d x
theorem KAt.step {us : List V} {qs : List Part} (h : KAt K CF H0 H l us qs) (pn : Pn p c ns H0) (pnH : Pn p c ns H) (el : H' l = some (.lst us)) (e : ∀ b o, b ≠ p → b ≠ l → H b = some o → H' b = some o) : KAt K CF H0 H' l us qs :=
  ⟨el, L2.Paired.mapP h.ps fun _ _ z => PartL.step z pn pnH h.eq e, h.len, h.dt⟩
theorem KAt.go {us : List V} {qs : List Part} (h : KAt K CF H0 H l us qs) (pn : Pn p c ns H0) (pnH : Pn p c ns H) (g : Go p c ns H H') : KAt K CF H0 H' l us qs :=
  h.step pn pnH (g.but _ _ (Go.ne pnH h.eq (by intro x z; cases z)) h.eq) fun b o np _ q => g.but b o np q
/-- one of them is written anew -/
theorem KAt.put {us : List V} {qs : List Part} {j : Nat} {x : V} {d : PyData} (h : KAt K CF H0 H l us qs) (pn : Pn p c ns H0) (pnH : Pn p c ns H) (v : VdL K H0 H l x d) : KAt K CF H0 (upd H l (.lst (us.set j x))) l (us.set j x) (qs.set j (.d d)) := by
  have e : ∀ b o, b ≠ p → b ≠ l → H b = some o → upd H l (.lst (us.set j x)) b = some o := fun b o _ nl q => by
    rw [upd_ne nl]
    exact q
  refine ⟨upd_same, paired_set j (L2.Paired.mapP h.ps fun _ _ z => PartL.step z pn pnH h.eq e) (VdL.step pn v e), by rw [List.length_set]; exact h.len, fun i q ni hi => ?_⟩
  by_cases z : j = i
  · subst z
    by_cases lt : j < qs.length
    · rw [List.getElem?_set_self lt] at hi
      exact ⟨d, (Option.some.inj hi).symm⟩
    · rw [List.getElem?_eq_none (by rw [List.length_set]; omega)] at hi
      cases hi
  · rw [List.getElem?_set_ne z] at hi
    exact h.dt i q ni hi
theorem KAt.seven {us : List V} {qs : List Part} (h : KAt K CF H0 H l us qs) : ∃ (un ufs ub uf uh uk ur : V) (n b f hh k r : PyData) (q : Part), us = [un, ufs, ub, uf, uh, uk, ur] ∧ qs = [.d n, q, .d b, .d f, .d hh, .d k, .d r] ∧
    VdL K H0 H l un n ∧ PartL K CF H0 H l ufs q ∧ VdL K H0 H l ub b ∧ VdL K H0 H l uf f ∧ VdL K H0 H l uh hh ∧ VdL K H0 H l uk k ∧ VdL K H0 H l ur r := by
  obtain ⟨eq, ps, len, dt⟩ := h
  match qs, len, dt, ps with
  | [q0, q1, q2, q3, q4, q5, q6], _, dt, ps =>
    obtain ⟨x0, rfl⟩ := dt 0 q0 (by decide) rfl
    obtain ⟨x2, rfl⟩ := dt 2 q2 (by decide) rfl
    obtain ⟨x3, rfl⟩ := dt 3 q3 (by decide) rfl
    obtain ⟨x4, rfl⟩ := dt 4 q4 (by decide) rfl
    obtain ⟨x5, rfl⟩ := dt 5 q5 (by decide) rfl
    obtain ⟨x6, rfl⟩ := dt 6 q6 (by decide) rfl
    match us, ps with
    | _, .cons a0 (.cons a1 (.cons a2 (.cons a3 (.cons a4 (.cons a5 (.cons a6 .nil)))))) => exact ⟨_, _, _, _, _, _, _, _, _, _, _, _, _, _, rfl, rfl, a0, a1, a2, a3, a4, a5, a6⟩
/-- the seven as the law's and the program's defs ask for them -/
structure K7 (K : PySem.W.Frag) (CF : Addr) (H : Hp) (l : Addr) (un ufs ub uf uh uk ur : V) (n b f h k r : PyData) (o : Option (List Item)) : Prop where
  at_ : SqL K H l [un, ufs, ub, uf, uh, uk, ur]
  fs : FsAt K CF H ufs o
  n : Vd K H un n
  b : Vd K H ub b
  f : Vd K H uf f
  h : Vd K H uh h
  k : Vd K H uk k
  r : Vd K H ur r
section
variable {un ufs ub uf uh uk ur : V} {n b f h k r : PyData} {o : Option (List Item)} {Q : VK} {E : XK}
theorem K7.same (q : K7 K CF H l un ufs ub uf uh uk ur n b f h k r o) (s : Same H H') : K7 K CF H' l un ufs ub uf uh uk ur n b f h k r o :=
  ⟨sqL_same s q.at_, q.fs.same s, q.n.same s, q.b.same s, q.f.same s, q.h.same s, q.k.same s, q.r.same s⟩
theorem K7.kr (q : K7 K CF H l un ufs ub uf uh uk ur n b f h k r o) (c : ∀ H', Same H H' → Q (.bl (kindRight n o b f h k r)) H') : spKR K CF [.ref l] H Q E :=
  ⟨l, un, ufs, ub, uf, uh, uk, ur, n, b, f, h, k, r, o, rfl, q.at_, q.n.q, q.fs, q.b.q, q.f.q, q.h.q, q.k.q, q.r.q, q.n.a, q.b.a, q.k.a, c⟩
end
end Wp
set_option Elab.async false
set_option linter.all false
set_option maxRecDepth 100000
set_option maxHeartbeats 4000000
namespace Wp
open PySem PySem.Spec PyProof.Rows L2
/-! ## a kind's parts, drawn -/
structure EvoN (H0 H H'' : Hp) : Prop where
  nw : ∀ b o, H0 b = none → H b = some o → H'' b = some o
  st : ∀ b o, Still o → H b = some o → H'' b = some o
def ItN (K : PySem.W.Frag) (CF : Addr) (H0 H : Hp) (q : Addr) (u : V) : Item → Prop
  | .f v => ItAt K CF H u (.f v)
  | .d x => VdL K H0 H q u x
def PartN (K : PySem.W.Frag) (CF : Addr) (H0 H : Hp) (u : V) (its : List Item) : Prop :=
  its.length ≤ 11 ∧ (∀ H'', EvoN H0 H H'' → FsV K CF H'' u its) ∧ ∀ a us, u = .ref a → H a = some (.lst us) → H0 a = none
section
variable {K : PySem.W.Frag} {CF : Addr} {H0 H H' : Hp} {l p c q : Addr} {ns : List Int}
theorem EvoN.refl : EvoN H0 H H := ⟨fun _ _ _ e => e, fun _ _ _ e => e⟩
theorem ItN.evo {u : V} {i : Item} (h : ItN K CF H0 H q u i) {H'' : Hp} (e : EvoN H0 H H'') : ItAt K CF H'' u i := by
  cases i with
  | f v =>
    obtain ⟨a, e1, q⟩ := h
    exact ⟨a, e1, q.still e.st⟩
  | d x => exact (h H'' fun b o n _ z => e.nw b o n z).q
theorem partN_lst {a : Addr} {us : List V} {its : List Item} (n : H0 a = none) (e : H a = some (.lst us)) (iq : Paired (ItN K CF H0 H q) us its) (l : its.length ≤ 11) : PartN K CF H0 H (.ref a) its :=
  ⟨l, fun H'' ev => .lst (ev.nw _ _ n e) (L2.Paired.mapP iq fun _ _ z => ItN.evo z ev), fun b vs e1 _ => by injection e1 with e1; rw [← e1]; exact n⟩
theorem partN_tup {a : Addr} {us : List V} {its : List Item} (e : H a = some (.tup us)) (iq : Paired (ItN K CF H0 H q) us its) (l : its.length ≤ 11) : PartN K CF H0 H (.ref a) its :=
  ⟨l, fun H'' ev => .tup (ev.st _ (.tup _) trivial e) (L2.Paired.mapP iq fun _ _ z => ItN.evo z ev), fun b vs e1 e2 => by injection e1 with e1; rw [← e1, e] at e2; cases e2⟩
theorem go_still (g : Go p c ns H H') (pn : Pn p c ns H) : ∀ b o, Still o → H b = some o → H' b = some o := fun b o s q => by
  refine g.but b o (fun z => ?_) q
  obtain ⟨a, r, d, m, t, S⟩ := pn
  rw [z, S.pd] at q
  cases q
  exact s
theorem go_nw (g : Go p c ns H H') (pn : Pn p c ns H0) : ∀ b o, H0 b = none → H b = some o → H' b = some o := fun b o n q => by
  refine g.but b o (fun z => ?_) q
  obtain ⟨a, r, d, m, t, S⟩ := pn
  rw [z, S.pd] at n
  cases n
theorem ItN.step {u : V} {i : Item} (h : ItN K CF H0 H q u i) (pn : Pn p c ns H0) (st : ∀ b o, Still o → H b = some o → H' b = some o) (e : ∀ b o, b ≠ p → b ≠ q → H b = some o → H' b = some o) : ItN K CF H0 H' q u i := by
  cases i with
  | f v =>
    obtain ⟨a, e1, y⟩ := h
    exact ⟨a, e1, y.still st⟩
  | d x => exact VdL.step pn h e
theorem ItN.go {u : V} {i : Item} (h : ItN K CF H0 H q u i) (pn : Pn p c ns H0) (pnH : Pn p c ns H) (g : Go p c ns H H') : ItN K CF H0 H' q u i :=
  ItN.step h pn (go_still g pnH) fun b o n _ z => g.but b o n z
theorem PartN.go {u : V} {its : List Item} (h : PartN K CF H0 H u its) (pn : Pn p c ns H0) (pnH : Pn p c ns H) (g : Go p c ns H H') : PartN K CF H0 H' u its := by
  obtain ⟨h1, h2, h3⟩ := h
  refine ⟨h1, fun H'' ev => h2 H'' ⟨fun b o n q => ev.nw b o n (go_nw g pn b o n q), fun b o s q => ev.st b o s (go_still g pnH b o s q)⟩, fun a us e1 e2 => ?_⟩
  have q := h2 H EvoN.refl
  subst e1
  cases q with
  | lst e3 q => exact h3 _ _ rfl e3
  | tup e3 q =>
    have e4 := go_still g pnH _ (.tup _) trivial e3
    rw [e4] at e2
    cases e2
theorem PartN.toL {u : V} {its : List Item} (h : PartN K CF H0 H u its) (nl : H l = none) (s : Same H H') : PartL K CF H0 H' l u (.fs its) := by
  obtain ⟨h1, h2, h3⟩ := h
  refine ⟨h1, fun H'' ev => h2 H'' ⟨fun b o n q => ev.nw b o n (ne_of_none q nl) (s _ _ q), fun b o st q => ev.st b o st (s _ _ q)⟩, fun a us e1 e2 => ?_⟩
  have q := h2 H EvoN.refl
  subst e1
  cases q with
  | lst e3 q => exact ⟨h3 _ _ rfl e3, ne_of_none e3 nl⟩
  | tup e3 q =>
    have e4 := s _ _ e3
    rw [e4] at e2
    cases e2
theorem VdN.base {H1 : Hp} {v : V} {d : PyData} (h : VdN K H1 H v d) (n : ∀ b, H1 b = none → H0 b = none) : VdN K H0 H v d := fun H'' e => h H'' fun b o q1 q2 => e b o (n b q1) q2
end
theorem ixN_of {n j : Nat} (h : j < n) : ixN n (j : Int) = some j := by
  rw [ixN, if_pos (by omega), if_pos (by omega)]
  rfl
theorem paired_mapr {α β γ : Type} {F : α → β → Prop} {G : α → γ → Prop} {g : β → γ} {xs : List α} {ys : List β} (h : Paired F xs ys) (k : ∀ x y, F x y → G x (g y) := by exact fun _ _ z => z) : Paired G xs (ys.map g) := by
  induction h with
  | nil => exact .nil
  | cons a _ ih => exact .cons (k _ _ a) ih
abbrev lKP : Stmt := top 55
abbrev nKP : List Str := ["_law_pen_here", "_law_names", "_law_pool", "_law_name", "_law_count", "_law_fields", "_law_own_base", "_law_own_frozen", "_law_own_heirs", "_law_own_key", "_law_parts", "_law_k"]
def spKP (K : PySem.W.Frag) (CF : Addr) : Sp := fun vs H Q _ => ∃ (p c : Addr) (ns : List Int) (qn qp : Addr) (ks ws : List Str), vs = [.ref p, .ref qn, .ref qp] ∧ Pn p c ns H ∧ Names K H qn ks ∧ ks.length = 3 ∧ Pool K H qp ws ∧ ws.length = 12 ∧
  ∀ (l : Addr) (us : List V) (qs : List Part) (H' : Hp), H l = none → KAt K CF H H' l us qs → Go p c ns H H' → Q (.ref l) H'
section
variable {P : Program} {w : World} {K : PySem.W.Frag} {mg : Str → Option Value} {base : Heap}
theorem scKP : FnScope nKP ["_law_pen_here", "_law_names", "_law_pool"] (defScope lKP) := ⟨rfl, rfl, rfl, by decide +kernel, rfl, by decide +kernel, by decide +kernel⟩
theorem ok_KP {f f1 f2 f3 f4 CF : Addr} {fd fd1 fd2 fd3 fd4 : FuncData} (F : Fun K "_law_kind_parts" "_law_kind_parts" lKP f fd) (B : Bn mg) (T : Known P w K mg base CX0 1 "_law_take" ["_law_pen_here", "_law_bound"] spTake f1 fd1)
    (O : Known P w K mg base CX0 2 "_law_one_of" ["_law_pen_here", "_law_menu"] (spOne K) f2 fd2) (D : Known P w K mg base CX0 3 "_law_odd" ["_law_pen_here"] (spOdd K) f3 fd3)
    (RF : KnownQ P w K mg base 7 "_law_right_fields" ["_law_pen_here", "_law_names", "_law_pool", "_law_count"] (spRF K CF) f4 fd4) : GOk P w K mg base CX0 8 f fd ["_law_pen_here", "_law_names", "_law_pool"] (spKP K CF) := by
  refine gok_of F scKP (fun vs H Q E h => ?_) (fun cdv A outer s H vs Q E hG hr h => ?_)
  · obtain ⟨p, c, ns, qn, qp, ks, ws, rfl, _⟩ := h
    rfl
  · obtain ⟨p, c, ns, qn, qp, ks, ws, rfl, pn, nm, lk, po, lw, k⟩ := h
    refine ⟨_, 
      (pss_cons (ps_set (i := 3) scKP.nd rfl (.inl rfl) (pe_call O.ok (hr.mono (by decide)) rfl O.mg O.kp O.bi .nil pass0 (pa_cons (pv 0) (pa_cons (pv 1) pa_nil))))
      (pss_cons (ps_set (i := 4) scKP.nd rfl (.inl rfl) (pe_call O.ok (hr.mono (by decide)) rfl O.mg O.kp O.bi .nil pass0 (pa_cons (pv 0) (pa_cons (pe_lst (pa_cons pe_int (pa_cons pe_int (pa_cons pe_int (pa_cons pe_int (pa_cons pe_int (pa_cons pe_int (pa_cons pe_int pa_nil)))))))) pa_nil))))
      (pss_cons (ps_set (i := 5) scKP.nd rfl (.inl rfl) (pe_callG hG RF.ok (hr.mono (by decide)) rfl RF.mg RF.kp RF.bi pass0 (pa_cons (pv 0) (pa_cons (pv 1) (pa_cons (pv 2) (pa_cons (pv 4) pa_nil))))))
      (pss_cut (ps_if (PW.pt (pw_and (pt_cmpR op_gt (pv 4) pe_int (nomark _)) (pw_and1 (pt_cmpR op_eq (pe_call T.ok (hr.mono (by decide)) rfl T.mg T.kp T.bi .nil pass0 (pa_cons (pv 0) (pa_cons pe_int pa_nil))) pe_int (nomark _))))) 
        (pss_one (ps_asg (pe_ix ix_list (pv 5) (pe_call T.ok (hr.mono (by decide)) rfl T.mg T.kp T.bi .nil pass0 (pa_cons (pv 0) (pa_cons (pv 4) pa_nil))) (fun _ _ => rfl)) (pg_sub (pv 5) (pe_call T.ok (hr.mono (by decide)) rfl T.mg T.kp T.bi .nil pass0 (pa_cons (pv 0) (pa_cons (pv 4) pa_nil))) set_list))) pss_nil)
      (pss_cut (ps_if (PW.pt (pw_and (pt_cmpR op_gt (pv 4) pe_int (nomark _)) (pw_and1 (pt_cmpR op_eq (pe_call T.ok (hr.mono (by decide)) rfl T.mg T.kp T.bi .nil pass0 (pa_cons (pv 0) (pa_cons pe_int pa_nil))) pe_int (nomark _))))) 
        (pss_one (ps_asg (pe_call D.ok (hr.mono (by decide)) rfl D.mg D.kp D.bi .nil pass0 (pa_cons (pv 0) pa_nil)) (pg_sub (pv 5) (pe_call T.ok (hr.mono (by decide)) rfl T.mg T.kp T.bi .nil pass0 (pa_cons (pv 0) (pa_cons (pv 4) pa_nil))) set_list))) pss_nil)
      (pss_cut (ps_if (pt_cmpR op_eq (pe_call T.ok (hr.mono (by decide)) rfl T.mg T.kp T.bi .nil pass0 (pa_cons (pv 0) (pa_cons pe_int pa_nil))) pe_int (nomark _)) 
        (pss_one (ps_set (i := 5) scKP.nd rfl (.inl rfl) (pe_callTy call_tuple_of (by rfl) B.tuple boot_ttuple (pa_cons (pv 5) pa_nil)))) pss_nil)
      (pss_cons (ps_set (i := 6) scKP.nd rfl (.inl rfl) (pe_call O.ok (hr.mono (by decide)) rfl O.mg O.kp O.bi .nil pass0 (pa_cons (pv 0) (pa_cons (pe_op op_cat (pe_lst (pa_cons pe_non (pa_cons pe_non pa_nil))) (pv 1)) pa_nil))))
      (pss_cons (ps_set (i := 7) scKP.nd rfl (.inl rfl) (pe_cmpR op_eq (pe_call T.ok (hr.mono (by decide)) rfl T.mg T.kp T.bi .nil pass0 (pa_cons (pv 0) (pa_cons pe_int pa_nil))) pe_int (nomark _)))
      (pss_cons (ps_set (i := 8) scKP.nd rfl (.inl rfl) (pe_cmpR op_eq (pe_call T.ok (hr.mono (by decide)) rfl T.mg T.kp T.bi .nil pass0 (pa_cons (pv 0) (pa_cons pe_int pa_nil))) pe_int (nomark _)))
      (pss_cons (ps_set (i := 9) scKP.nd rfl (.inl rfl) (pe_call O.ok (hr.mono (by decide)) rfl O.mg O.kp O.bi .nil pass0 (pa_cons (pv 0) (pa_cons (pe_op op_cat (pe_lst (pa_cons pe_non (pa_cons pe_non pa_nil))) (pv 2)) pa_nil))))
      (pss_cons (ps_set (i := 10) scKP.nd rfl (.inl rfl) (pe_lst (pa_cons (pv 3) (pa_cons (pv 5) (pa_cons (pv 6) (pa_cons (pv 7) (pa_cons (pv 8) (pa_cons (pv 9) (pa_cons (pe_cmpR op_eq (pe_call T.ok (hr.mono (by decide)) rfl T.mg T.kp T.bi .nil pass0 (pa_cons (pv 0) (pa_cons pe_int pa_nil))) pe_int (nomark _)) pa_nil)))))))))
      (pss_cons (ps_for PassesOwn.leaving rfl (pi_range1 rfl B.range (pa_cons (pe_call O.ok (hr.mono (by decide)) rfl O.mg O.kp O.bi .nil pass0 (pa_cons (pv 0) (pa_cons (pe_lst (pa_cons pe_int (pa_cons pe_int (pa_cons pe_int (pa_cons pe_int (pa_cons pe_int pa_nil)))))) pa_nil))) pa_nil)) (pg_name (i := 11) scKP.nd rfl (Or.inl rfl)) 
        (pss_one (ps_asg (pe_call D.ok (hr.mono (by decide)) rfl D.mg D.kp D.bi .nil pass0 (pa_cons (pv 0) pa_nil)) (pg_sub (pv 10) (pe_call T.ok (hr.mono (by decide)) rfl T.mg T.kp T.bi .nil pass0 (pa_cons (pv 0) (pa_cons pe_int pa_nil))) set_list))))
      (pss_one (ps_ret (pv 10))))))))))))))), ?_⟩
    refine ⟨_, rfl, _, rfl, ?_⟩
    dsimp only [tCons, L2.tC, tNil, List.append_nil]
    refine one_go pn (SqL.of nm.eq) (by rw [List.length_map, lk]; decide) (by rw [List.length_map, lk]; decide) fun x1 H1 m1 g1 => ?_
    obtain ⟨nn, mn, rfl⟩ := List.mem_map.mp m1
    have kn := nm.ok nn mn
    refine ⟨_, rfl, by show 7 ≤ sizeLine; decide, fun l1 n1 => ?_⟩
    dsimp only [tCons, L2.tC, tNil, List.append_nil]
    have g2 := g1.trans (Go.new (o := .lst [.int 0, .int 1, .int 2, .int 3, .int 4, .int 10, .int 11]) g1.pn n1)
    have e2 : upd H1 l1 (.lst [.int 0, .int 1, .int 2, .int 3, .int 4, .int 10, .int 11]) l1 = some (.lst [.int 0, .int 1, .int 2, .int 3, .int 4, .int 10, .int 11]) := upd_same
    generalize upd H1 l1 (.lst [.int 0, .int 1, .int 2, .int 3, .int 4, .int 10, .int 11]) = H2 at g2 e2 ⊢
    refine one_go g2.pn (SqL.of e2) (by decide) (by decide) fun x3 H3 m3 g3 => ?_
    obtain ⟨cnt, rfl, lc⟩ : ∃ cnt : Nat, x3 = .int (cnt : Int) ∧ cnt ≤ 11 := by
      simp only [List.mem_cons, List.not_mem_nil, or_false] at m3
      rcases m3 with rfl | rfl | rfl | rfl | rfl | rfl | rfl
      · exact ⟨0, rfl, by decide⟩
      · exact ⟨1, rfl, by decide⟩
      · exact ⟨2, rfl, by decide⟩
      · exact ⟨3, rfl, by decide⟩
      · exact ⟨4, rfl, by decide⟩
      · exact ⟨10, rfl, by decide⟩
      · exact ⟨11, rfl, by decide⟩
    have g3 := g2.trans g3
    refine ⟨_, rfl, _, rfl, _, rfl, _, rfl, ?_⟩
    dsimp only [tCons, L2.tC, tNil, List.append_nil]
    refine ⟨p, c, ns, qn, qp, ks, ws, cnt, rfl, g3.pn, nm.go pn g3, lk, po.go pn g3, lw, by omega, fun q us fs H4 nq eq pf lf g4 => ?_⟩
    have g4 := g3.trans g4
    have nq := Go.none g3 nq
    refine ⟨fun σ H' => Go p c ns H H' ∧ ∃ us fs, σ = [some (.ref p), some (.ref qn), some (.ref qp), some (.str nn), some (.int cnt), some (.ref q), none, none, none, none, none, none] ∧ H' q = some (.lst us) ∧ Paired (fun u v => ItAt K CF H' u (.f v)) us fs ∧ fs.length = cnt, ?_, ?_⟩
    · refine ⟨_, rfl, _, _, rfl, rfl, _, rfl, ?_⟩
      refine ite2 (fun hc => ?_) (fun _ => ?_)
      · have hc := of_decide_eq_true hc
        refine ⟨_, rfl, ?_⟩
        dsimp only [tCons, L2.tC, tNil, List.append_nil]
        refine take_go g4.pn (b := 8) (by decide) (by decide) fun v5 H5 a0 a1 g5 => ⟨rfl, _, rfl, ?_⟩
        have eq5 := g5.but _ _ (Go.ne g4.pn eq (by intro x z; cases z)) eq
        have pf5 : Paired (fun u v => ItAt K CF H5 u (.f v)) us fs := L2.Paired.mapP pf fun _ _ z => g5.item g4.pn z
        have g5 := g4.trans g5
        refine ite2 (fun _ => ?_) (fun _ => ?_)
        · refine ⟨_, rfl, _, rfl, _, rfl, ?_⟩
          dsimp only [tCons, L2.tC, tNil, List.append_nil]
          refine take_go g5.pn (b := cnt) (by omega) (by omega) fun v6 H6 b0 b1 g6 => ?_
          obtain ⟨j, rfl⟩ := Int.eq_ofNat_of_zero_le b0
          have eq6 := g6.but _ _ (Go.ne g5.pn eq5 (by intro x z; cases z)) eq5
          have pf6 : Paired (fun u v => ItAt K CF H6 u (.f v)) us fs := L2.Paired.mapP pf5 fun _ _ z => g6.item g5.pn z
          have g6 := g5.trans g6
          have lu : us.length = cnt := pf6.length.trans lf
          obtain ⟨x, ex⟩ : ∃ x, us[j]? = some x := ⟨us[j]'(by omega), List.getElem?_eq_getElem _⟩
          obtain ⟨fx, efx, ix⟩ := paired_get pf6 ex
          refine ⟨q, _, _, _, rfl, rfl, SqL.of eq6, atI_nat ex, _, rfl, _, rfl, _, rfl, ?_⟩
          dsimp only [tCons, L2.tC, tNil, List.append_nil]
          refine take_go g6.pn (b := cnt) (by omega) (by omega) fun v7 H7 c0 c1 g7 => ?_
          obtain ⟨j7, rfl⟩ := Int.eq_ofNat_of_zero_le c0
          have eq7 := g7.but _ _ (Go.ne g6.pn eq6 (by intro x z; cases z)) eq6
          have pf7 : Paired (fun u v => ItAt K CF H7 u (.f v)) us fs := L2.Paired.mapP pf6 fun _ _ z => g7.item g6.pn z
          have ix7 := g7.item g6.pn ix
          have g7 := g6.trans g7
          refine ⟨q, _, _, j7, rfl, rfl, eq7, ixN_of (by omega), ?_⟩
          have ap : ∀ u v, ItAt K CF H7 u (.f v) → ItAt K CF (upd H7 q (.lst (us.set j7 x))) u (.f v) := fun u v z => by
            obtain ⟨a, e, q⟩ := z
            exact ⟨a, e, q.app eq7⟩
          exact ⟨Go.over pn g7 nq, us.set j7 x, fs.set j7 fx, rfl, upd_same, paired_set j7 (L2.Paired.mapP pf7 fun _ _ z => ap _ _ z) (ap _ _ ix7), by rw [List.length_set, lf]⟩
        · exact ⟨g5, us, fs, rfl, eq5, pf5, lf⟩
      · exact ⟨g4, us, fs, rfl, eq, pf, lf⟩
    clear eq pf lf
    rintro σ H4 ⟨g4, us, fs, rfl, eq, pf, lf⟩
    refine ⟨fun σ H' => Go p c ns H H' ∧ ∃ us its, σ = [some (.ref p), some (.ref qn), some (.ref qp), some (.str nn), some (.int cnt), some (.ref q), none, none, none, none, none, none] ∧ H' q = some (.lst us) ∧ Paired (ItN K CF H H' q) us its ∧ its.length = cnt, ?_, ?_⟩
    · have pi4 : Paired (ItN K CF H H4 q) us (fs.map Item.f) := paired_mapr pf
      have li : (fs.map Item.f).length = cnt := by rw [List.length_map, lf]
      refine ⟨_, rfl, _, _, rfl, rfl, _, rfl, ?_⟩
      refine ite2 (fun hc => ?_) (fun _ => ?_)
      · have hc := of_decide_eq_true hc
        refine ⟨_, rfl, ?_⟩
        dsimp only [tCons, L2.tC, tNil, List.append_nil]
        refine take_go g4.pn (b := 8) (by decide) (by decide) fun v5 H5 a0 a1 g5 => ⟨rfl, _, rfl, ?_⟩
        have eq5 := g5.but _ _ (Go.ne g4.pn eq (by intro x z; cases z)) eq
        have pi5 : Paired (ItN K CF H H5 q) us (fs.map Item.f) := L2.Paired.mapP pi4 fun _ _ z => ItN.go z pn g4.pn g5
        have g5 := g4.trans g5
        refine ite2 (fun _ => ?_) (fun _ => ?_)
        · refine ⟨_, rfl, ?_⟩
          dsimp only [tCons, L2.tC, tNil, List.append_nil]
          refine ⟨p, c, ns, rfl, g5.pn, fun x d H6 vx g6 => ?_⟩
          have eq6 := g6.but _ _ (Go.ne g5.pn eq5 (by intro x z; cases z)) eq5
          have pi6 : Paired (ItN K CF H H6 q) us (fs.map Item.f) := L2.Paired.mapP pi5 fun _ _ z => ItN.go z pn g5.pn g6
          have vx : VdL K H H6 q x d := fun H'' ev => vx H'' fun b o n z => ev b o (Go.none g5 n) (fun y => by rw [y, eq5] at n; cases n) z
          have g6 := g5.trans g6
          refine ⟨_, rfl, _, rfl, _, rfl, ?_⟩
          dsimp only [tCons, L2.tC, tNil, List.append_nil]
          refine take_go g6.pn (b := cnt) (by omega) (by omega) fun v7 H7 c0 c1 g7 => ?_
          obtain ⟨j7, rfl⟩ := Int.eq_ofNat_of_zero_le c0
          have eq7 := g7.but _ _ (Go.ne g6.pn eq6 (by intro x z; cases z)) eq6
          have pi7 : Paired (ItN K CF H H7 q) us (fs.map Item.f) := L2.Paired.mapP pi6 fun _ _ z => ItN.go z pn g6.pn g7
          have vx7 : ItN K CF H H7 q x (.d d) := ItN.go (i := .d d) vx pn g6.pn g7
          have g7 := g6.trans g7
          have lu : us.length = cnt := pi7.length.trans li
          refine ⟨q, _, _, j7, rfl, rfl, eq7, ixN_of (by omega), ?_⟩
          have st7 : ∀ b o, Still o → H7 b = some o → upd H7 q (.lst (us.set j7 x)) b = some o := fun b o s z => by
            rw [upd_ne (fun y => by rw [y, eq7] at z; cases z; exact s)]
            exact z
          have ap : ∀ u i, ItN K CF H H7 q u i → ItN K CF H (upd H7 q (.lst (us.set j7 x))) q u i := fun u i z => ItN.step z pn st7 fun b o _ n y => by
            rw [upd_ne n]
            exact y
          exact ⟨Go.over pn g7 nq, us.set j7 x, (fs.map Item.f).set j7 (.d d), rfl, upd_same, paired_set j7 (L2.Paired.mapP pi7 fun _ _ z => ap _ _ z) (ap _ _ vx7), by rw [List.length_set, li]⟩
        · exact ⟨g5, us, _, rfl, eq5, pi5, li⟩
      · exact ⟨g4, us, _, rfl, eq, pi4, li⟩
    clear eq pf lf
    rintro σ H4 ⟨g4, us, its, rfl, eq, pf, lf⟩
    refine ⟨fun σ H' => Go p c ns H H' ∧ ∃ u its, σ = [some (.ref p), some (.ref qn), some (.ref qp), some (.str nn), some (.int cnt), some u, none, none, none, none, none, none] ∧ PartN K CF H H' u its, ?_, ?_⟩
    · refine ⟨_, rfl, ?_⟩
      dsimp only [tCons, L2.tC, tNil, List.append_nil]
      refine take_go g4.pn (b := 2) (by decide) (by decide) fun v5 H5 a0 a1 g5 => ⟨rfl, ?_⟩
      have eq5 := g5.but _ _ (Go.ne g4.pn eq (by intro x z; cases z)) eq
      have pi5 : Paired (ItN K CF H H5 q) us its := L2.Paired.mapP pf fun _ _ z => ItN.go z pn g4.pn g5
      have g5 := g4.trans g5
      refine ⟨_, rfl, ?_⟩
      refine ite2 (fun _ => ?_) (fun _ => ?_)
      · refine ⟨_, rfl, q, us, rfl, .inl ⟨SqL.of eq5, fun t nt => ?_⟩⟩
        have s6 := same_new (o := HO.tup us) nt
        have e6 : upd H5 t (.tup us) t = some (.tup us) := upd_same
        generalize upd H5 t (.tup us) = H6 at s6 e6 ⊢
        have g6 : Go p c ns H5 H6 := Go.of g5.pn s6
        exact ⟨g5.trans g6, .ref t, its, rfl, partN_tup e6 (L2.Paired.mapP pi5 fun _ _ z => ItN.go z pn g5.pn g6) (by omega)⟩
      · exact ⟨g5, .ref q, its, rfl, partN_lst nq eq5 pi5 (by omega)⟩
    clear eq pf lf
    rintro σ H4 ⟨g4, u, its, rfl, pt⟩
    have nm4 := nm.go pn g4
    have po4 := po.go pn g4
    refine ⟨_, rfl, by show 2 ≤ sizeLine; decide, fun l5 n5 => ⟨_, rfl, ?_⟩⟩
    dsimp only [tCons, L2.tC, tNil, List.append_nil]
    have s5 := same_new (o := HO.lst [V.non, .non]) n5
    have e5 : upd H4 l5 (.lst [V.non, .non]) l5 = some (.lst [V.non, .non]) := upd_same
    generalize upd H4 l5 (.lst [V.non, .non]) = H5 at s5 e5 ⊢
    refine ⟨l5, qn, _, _, rfl, rfl, e5, s5 _ _ nm4.eq, by rw [List.length_map, lk]; show 2 + 3 ≤ sizeLine; decide, fun l6 n6 => ?_⟩
    have s6 := same_new (o := HO.lst ([V.non, .non] ++ ks.map V.str)) n6
    have e6 : upd H5 l6 (.lst ([V.non, .non] ++ ks.map V.str)) l6 = some (.lst ([V.non, .non] ++ ks.map V.str)) := upd_same
    generalize upd H5 l6 (.lst ([V.non, .non] ++ ks.map V.str)) = H6 at s6 e6 ⊢
    have g6 := Go.of g4.pn (s5.trans s6)
    have pt := pt.go pn g4.pn g6
    have g6 := g4.trans g6
    refine one_go g6.pn (SqL.of e6) (by rw [List.length_append, List.length_map, lk]; decide) (by rw [List.length_append, List.length_map, lk]; decide) fun xb H7 mb g7 => ?_
    obtain ⟨db, vb⟩ : ∃ db, ∀ H'', Vd K H'' xb db := by
      rcases List.mem_append.mp mb with mb | mb
      · obtain rfl : xb = .non := by simpa using mb
        exact ⟨_, fun _ => vd_none⟩
      · obtain ⟨y, my, rfl⟩ := List.mem_map.mp mb
        exact ⟨_, fun _ => (nm.ok y my).vd⟩
    have pt := pt.go pn g6.pn g7
    have g7 := g6.trans g7
    clear s5 s6 e5 e6 mb
    refine ⟨_, rfl, ?_⟩
    dsimp only [tCons, L2.tC, tNil, List.append_nil]
    refine take_go g7.pn (b := 4) (by decide) (by decide) fun vf H8 _ _ g8 => ⟨rfl, ?_⟩
    have pt := pt.go pn g7.pn g8
    have g8 := g7.trans g8
    refine ⟨_, rfl, ?_⟩
    dsimp only [tCons, L2.tC, tNil, List.append_nil]
    refine take_go g8.pn (b := 4) (by decide) (by decide) fun vh H9 _ _ g9 => ⟨rfl, ?_⟩
    have pt := pt.go pn g8.pn g9
    have g9 := g8.trans g9
    have po9 := po.go pn g9
    refine ⟨_, rfl, by show 2 ≤ sizeLine; decide, fun l5 n5 => ⟨_, rfl, ?_⟩⟩
    dsimp only [tCons, L2.tC, tNil, List.append_nil]
    have s5 := same_new (o := HO.lst [V.non, .non]) n5
    have e5 : upd H9 l5 (.lst [V.non, .non]) l5 = some (.lst [V.non, .non]) := upd_same
    generalize upd H9 l5 (.lst [V.non, .non]) = HA at s5 e5 ⊢
    refine ⟨l5, qp, _, _, rfl, rfl, e5, s5 _ _ po9.eq, by rw [List.length_map, lw]; show 2 + 12 ≤ sizeLine; decide, fun l6 n6 => ?_⟩
    have s6 := same_new (o := HO.lst ([V.non, .non] ++ ws.map V.str)) n6
    have e6 : upd HA l6 (.lst ([V.non, .non] ++ ws.map V.str)) l6 = some (.lst ([V.non, .non] ++ ws.map V.str)) := upd_same
    generalize upd HA l6 (.lst ([V.non, .non] ++ ws.map V.str)) = HB at s6 e6 ⊢
    have gB := Go.of g9.pn (s5.trans s6)
    have pt := pt.go pn g9.pn gB
    have gB := g9.trans gB
    refine one_go gB.pn (SqL.of e6) (by rw [List.length_append, List.length_map, lw]; decide) (by rw [List.length_append, List.length_map, lw]; decide) fun xk HC mk gC => ?_
    obtain ⟨dk, vk⟩ : ∃ dk, ∀ H'', Vd K H'' xk dk := by
      rcases List.mem_append.mp mk with mk | mk
      · obtain rfl : xk = .non := by simpa using mk
        exact ⟨_, fun _ => vd_none⟩
      · obtain ⟨y, my, rfl⟩ := List.mem_map.mp mk
        exact ⟨_, fun _ => (po.ok y my).vd⟩
    have pt := pt.go pn gB.pn gC
    have gC := gB.trans gC
    clear s5 s6 e5 e6 mk
    refine ⟨_, rfl, _, rfl, _, rfl, _, rfl, _, rfl, _, rfl, _, rfl, ?_⟩
    dsimp only [tCons, L2.tC, tNil, List.append_nil]
    refine take_go gC.pn (b := 4) (by decide) (by decide) fun vr HD _ _ gD => ⟨rfl, by show 7 ≤ sizeLine; decide, fun l nl => ?_⟩
    have pt := pt.go pn gC.pn gD
    have gD := gC.trans gD
    generalize decide (V.int vf = V.int 0) = cf
    generalize decide (V.int vh = V.int 0) = ch
    generalize decide (V.int vr = V.int 0) = cr
    have s1 := same_new (o := HO.lst [.str nn, u, xb, .bl cf, .bl ch, xk, .bl cr]) nl
    have el : upd HD l (.lst [.str nn, u, xb, .bl cf, .bl ch, xk, .bl cr]) l = some (.lst [.str nn, u, xb, .bl cf, .bl ch, xk, .bl cr]) := upd_same
    generalize upd HD l (.lst [.str nn, u, xb, .bl cf, .bl ch, xk, .bl cr]) = HE at s1 el ⊢
    have ka : KAt K CF H HE l [.str nn, u, xb, .bl cf, .bl ch, xk, .bl cr] [.d (.str nn), .fs its, .d db, .d (.bool cf), .d (.bool ch), .d dk, .d (.bool cr)] := by
      refine ⟨el, .cons (fun H'' _ => kn.vd) (.cons (pt.toL nl s1) (.cons (fun H'' _ => vb H'') (.cons (fun H'' _ => vd_bool _) (.cons (fun H'' _ => vd_bool _) (.cons (fun H'' _ => vk H'') (.cons (fun H'' _ => vd_bool _) .nil)))))), rfl, fun j y nj ej => ?_⟩
      match j, nj, ej with
      | 0, _, ej => exact ⟨_, (Option.some.inj ej).symm⟩
      | 1, nj, _ => exact absurd rfl nj
      | 2, _, ej => exact ⟨_, (Option.some.inj ej).symm⟩
      | 3, _, ej => exact ⟨_, (Option.some.inj ej).symm⟩
      | 4, _, ej => exact ⟨_, (Option.some.inj ej).symm⟩
      | 5, _, ej => exact ⟨_, (Option.some.inj ej).symm⟩
      | 6, _, ej => exact ⟨_, (Option.some.inj ej).symm⟩
      | _ + 7, _, ej => simp at ej
    have nl0 : H l = none := Go.none gD nl
    have gE := gD.trans (Go.of gD.pn s1)
    refine ⟨_, rfl, by show 5 ≤ sizeLine; decide, fun l5 n5 => ?_⟩
    have s5 := same_new (o := HO.lst [V.int 0, .int 0, .int 0, .int 1, .int 2]) n5
    have e5 : upd HE l5 (.lst [V.int 0, .int 0, .int 0, .int 1, .int 2]) l5 = some (.lst [V.int 0, .int 0, .int 0, .int 1, .int 2]) := upd_same
    generalize upd HE l5 (.lst [V.int 0, .int 0, .int 0, .int 1, .int 2]) = HF at s5 e5 ⊢
    have gF := Go.of gE.pn s5
    have ka := ka.go pn gE.pn gF
    have gF := gE.trans gF
    dsimp only [tNil, List.append_nil]
    refine one_go gF.pn (SqL.of e5) (by decide) (by decide) fun xt HG mt gG => ?_
    obtain ⟨tn, rfl, tn2⟩ : ∃ tn : Nat, xt = .int (tn : Int) ∧ tn ≤ 2 := by
      simp only [List.mem_cons, List.not_mem_nil, or_false] at mt
      rcases mt with rfl | rfl | rfl | rfl | rfl
      · exact ⟨0, rfl, by decide⟩
      · exact ⟨0, rfl, by decide⟩
      · exact ⟨0, rfl, by decide⟩
      · exact ⟨1, rfl, by decide⟩
      · exact ⟨2, rfl, by decide⟩
    have ka := ka.go pn gF.pn gG
    have gG := gF.trans gG
    refine ⟨tn, rfl, by omega, by omega, ?_⟩
    refine for_it (D := { nx := tRet (tVar 10) { nx := fun _ H' => Q .non H', rt := Q }, rt := Q }) (g := gName 11) walk_range (fun i σ H' => Go p c ns H H' ∧ ∃ us qs w, σ = [some (.ref p), some (.ref qn), some (.ref qp), some (.str nn), some (.int cnt), some u, some xb, some (.bl cf), some (.bl ch), some xk, some (.ref l), w] ∧ KAt K CF H H' l us qs) ?_ (fun _ _ _ _ _ => trivial) ?_ ?_
    · exact ⟨gG, _, _, none, rfl, ka⟩
    · rintro i y σ H5 H5' hi ⟨g5, us, qs, w, rfl, ka5⟩ ⟨rfl, rfl⟩
      refine ⟨_, rfl, ?_⟩
      dsimp only [tCons, L2.tC, tNil, List.append_nil]
      refine ⟨p, c, ns, rfl, g5.pn, fun x d H6 vx g6 => ?_⟩
      have ka6 := ka5.go pn g5.pn g6
      have vx : VdL K H H6 l x d := fun H'' ev => vx H'' fun b o n z => ev b o (Go.none g5 n) (fun y => by rw [y, ka5.eq] at n; cases n) z
      have g6 := g5.trans g6
      refine ⟨_, rfl, _, rfl, ?_⟩
      dsimp only [tCons, L2.tC, tNil, List.append_nil]
      refine take_go g6.pn (b := 7) (by decide) (by decide) fun vj H7 c0 c1 g7 => ?_
      obtain ⟨j, rfl⟩ := Int.eq_ofNat_of_zero_le c0
      have ka7 := ka6.go pn g6.pn g7
      have vx := VdL.step pn vx fun b o n _ z => g7.but b o n z
      have g7 := g6.trans g7
      have lu : us.length = 7 := ka7.ps.length.trans ka7.len
      exact ⟨l, us, _, j, rfl, rfl, ka7.eq, ixN_of (by omega), Go.over pn g7 nl0, _, _, _, rfl, ka7.put pn g7.pn vx⟩
    · rintro σ H5 ⟨g5, us, qs, w, rfl, ka5⟩
      exact ⟨_, rfl, k l us qs H5 nl0 ka5 g5⟩
end
end Wp
set_option Elab.async false
set_option linter.all false
set_option maxRecDepth 100000
set_option maxHeartbeats 4000000
namespace Wp
open PySem PySem.Spec PyProof.Rows L2 L2H
/-! ## a def that is called while an exception is handled, where no repr is on its way -/
structure GHk (P : Program) (w : World) (K : PySem.W.Frag) (mg : Str → Option Value) (base : Heap) (CX : CXT) (k : Nat) (f : Addr) (fd : FuncData) (ps : List Str) (sp : Sp) : Prop where
  len : ∀ vs H Q E, sp vs H Q E → vs.length = ps.length
  run : ∀ (A : Around) (outer : List Env) (s : Shared) (H : Hp) (args : Args) (us : List Value) (vs : List V) (Q : VK) (E : XK) (p : Addr × Obj), A.guards = some [] → RoomH k A → Hot1 A p → PinOk outer H s p → Env0 P w K mg base A outer s H → BindsTo s fd args (ps.zip us) → Vals vs us → sp vs H Q E →
    codeAny (model P w) A (.call (.ref f) args) (CR CX outer P w H s Q E) s
theorem gh_of {CX : CXT} {P : Program} {w : World} {K : PySem.W.Frag} {mg : Str → Option Value} {base : Heap} {k : Nat} {f : Addr} {fd : FuncData} {x qual : Str} {st : Stmt} {N ps : List Str} {sp : Sp}
    (F : Fun K x qual st f fd) (S : FnScope N ps (defScope st)) (len : ∀ ys H Q E, sp ys H Q E → ys.length = ps.length)
    (body : ∀ (cd : Value) (A : Around) (out : List Env) (s : Shared) (H : Hp) (ys : List V) (Q : VK) (E : XK) (p : Addr × Obj),
      (A.deeper (envOfC qual (defScope st) s.heap.objs.size f cd)).guards = some [] → Hot1 A p → RoomH k (A.deeper (envOfC qual (defScope st) s.heap.objs.size f cd)) → sp ys H Q E →
      ∃ t, PSs (cxH CX P w K mg base N qual (defScope st) f cd A out s H E p) (defBody st) t ∧ t { nx := fun _ H' => Q .non H', rt := Q } (L2.start N ys) H) : GHk P w K mg base CX (k + 1) f fd ps sp := by
  obtain ⟨oc, od, kV, doc, pm, an, cd, ct, osl, rfl, lk, hcd⟩ := F.ex
  refine ⟨len, fun A outer s H args us vs Q E p hG hr hot hpin e0 hb r hsp => ?_⟩
  have hl := len _ _ _ _ hsp
  have KX : K.In s.heap := e0.mod.kin.keeps fun b o e => (e0.bs b o e).1
  have lim : s.heap.NoLimit := e0.mod.nolimit.keeps fun b o e => (e0.bs b o e).1
  have hkind : ∀ y ∈ ps.zip us, (defScope st).names.lookup y.1 = some .local ∨ ((defScope st).names.lookup y.1 = some .cell ∧ ((cellsFrom (s.heap.objs.size + 1) (defScope st).names []).lookup y.1).isSome = true) := fun ⟨n, v⟩ hy => by
    rcases S.par n (List.of_mem_zip hy).1 with q | q
    · exact .inl q
    · exact .inr ⟨q, PySem.W.cellsFrom_some _ _ _ (.inl q)⟩
  refine codeAny_call_function hr.depth (KX _ _ lk) rfl S.co S.gen rfl (PySem.W.codeRec_of KX hcd) (hb _ _ _ _ ?_)
  refine wpAny_newFunctionEnv_cells S.kind hkind fun env he s1 x => ?_
  subst he
  refine ⟨lim.keeps x.toInCall.keep, codeAny_func ?_⟩
  obtain ⟨t, ht, hq⟩ := body cd A outer s H vs Q E p hG hot (hr.deeper _) hsp
  have I : Inv (cxH CX P w K mg base N qual (defScope st) f cd A outer s H E p) [] (L2.start N vs) H s1 := inv_startH S hpin e0 hl r x
  refine wpAny_mono (ht.run [] s1 (L2.start N vs) H _ I hq) (fun fl s' hs => ?_) fun e s' hs => hs
  have fin : ∀ {σ' : L2.St} {H' : Hp} {v : V} {u : Value}, Inv (cxH CX P w K mg base N qual (defScope st) f cd A outer s H E p) [] σ' H' s' → RelV v u → Q v H' → CE outer P w H s Q u s' :=
    fun {σ' H' v u} J rv q => ⟨v, H', J.os, J.bare, J.base, J.hok, rv, q⟩
  cases fl with
  | ret u =>
    obtain ⟨v, σ', H', J, rv, q⟩ := hs
    exact fin J rv q
  | next =>
    obtain ⟨σ', H', J, q⟩ := hs
    exact fin (v := V.non) (u := Value.none) J rfl q
  | brk =>
    obtain ⟨_, _, _, q⟩ := hs
    exact False.elim q
  | cont =>
    obtain ⟨_, _, _, q⟩ := hs
    exact False.elim q
section
variable {X : Cx} {CX : CXT} {k : Nat} {f : Addr} {fd : FuncData} {ps : List Str} {sp : Sp} {E : L2.St → XK} {x : Str} {q pos : Pos} {e : Expr} {es : List Expr} {t : TA}
theorem pe_callGH (hG : X.A.guards = some []) (F : GHk X.prog X.w X.K X.mg X.base CX k f fd ps sp) (hr : RoomH k X.A) (hc : HotC X) (hg : Gl X x) (hm : X.mg x = some (.ref f)) (hk : PySem.W.keepIn X.K (.ref f) = true) (hb : Binds X.K fd ps []) (hx : ∀ σ, PassesAt CX X σ (E σ))
    (ha : PA X (e :: es) t) (hdb : (x == ("__debug__" : Str)) = false := by decide) (he : starEach (e :: es) X.env = (false, eval e X.env) :: starEach es X.env := by rfl) (hpl : (backTo pos (starEach es X.env)).any (·.1) = false := by rfl) :
    PE X (.Call (.Name x q) (e :: es) [] pos) (tCallS sp E t) := by
  refine ⟨fun pins s σ H Q I h => ?_⟩
  refine wpAny_Call_Name_kw (ld_glob I hg hm ?_ hdb)
  refine PySem.W.callWith_K (h₀ := X.base) I.ok.mod.kin hk (thn (ha.run pos pins s σ H _ I h) fun us s1 ⟨vs, H1, I1, r, h⟩ => ⟨I1.kIn, ?_⟩) he hpl
  obtain ⟨p, hot, hp⟩ := hc
  have hl : us.length = ps.length := by rw [← r.length]; exact F.len _ _ _ _ h
  have b := hb s1 us I1.kIn (by rw [List.append_nil]; exact hl)
  rw [List.append_nil] at b
  have P1 := I1.pin p (List.mem_append_left _ hp)
  have hpin : PinOk X.stack H1 s1 p := ⟨P1.1, P1.2.1, fun hm => (List.mem_cons.mp (I1.stkSub p.1 hm)).elim P1.2.2.1 P1.2.2.2.1, P1.2.2.2.2⟩
  refine wpAny_call (codeAny_mono (F.run X.A X.stack s1 H1 ⟨us, []⟩ us vs Q (E σ) p hG hr hot hpin I1.env0 b r h) fun r s' hq => ?_)
  cases r with
  | error e => exact hx σ pins H1 s1 e s' I1 hq
  | ok fl =>
    cases fl with
    | ret u => exact I1.after hq
    | next => exact False.elim hq
    | brk => exact False.elim hq
    | cont => exact False.elim hq
end
/-- the def, and by which name it is found -/
structure KnownGH (P : Program) (w : World) (K : PySem.W.Frag) (mg : Str → Option Value) (base : Heap) (CX : CXT) (k : Nat) (x : Str) (ps : List Str) (sp : Sp) (f : Addr) (fd : FuncData) : Prop where
  ok : GHk P w K mg base CX k f fd ps sp
  mg : mg x = some (.ref f)
  kp : PySem.W.keepIn K (.ref f) = true
  bi : Binds K fd ps []
section
variable {P : Program} {w : World} {K : PySem.W.Frag} {mg : Str → Option Value} {base : Heap}
theorem okGH_lSame {f : Addr} {fd : FuncData} (F : Fun K "_law_same" "_law_same" lSame f fd) (B : Bn mg) : GHk P w K mg base CX0 1 f fd ["_law_one", "_law_other"] (spSameQ K) := by
  refine gh_of F scLSame (fun vs H Q E h => ?_) (fun cdv A outer s H vs Q E pp hG hot hr h => ?_)
  · obtain ⟨x, y, d, e, rfl, _⟩ := h
    rfl
  · obtain ⟨x, y, d, e, rfl, qx, qy, sx, sy, k⟩ := h
    have hu : (A.deeper (envOfC "_law_same" (defScope lSame) s.heap.objs.size f cdv)).units + 20 < cLine := by
      have := hr.un
      omega
    refine ⟨_, pss_one (ps_ret (pe_cmpR op_eq (pe_callB (call_reprQ hG hu) (by rfl) B.repr boot_repr (pa_cons (pv 0) pa_nil)) (pe_callB (call_reprQ hG hu) (by rfl) B.repr boot_repr (pa_cons (pv 1) pa_nil)) (nomark _))), ?_⟩
    refine ⟨_, rfl, x, d, rfl, qx, sx.sh, sx.dp, sx.ln, _, rfl, y, e, rfl, qy, sy.sh, sy.dp, sy.ln, rfl, ?_⟩
    have z : decide (V.str d.shown = V.str e.shown) = decide (d.shown = e.shown) := by
      by_cases c : d.shown = e.shown
      · rw [c]
        simp
      · rw [decide_eq_false c]
        exact decide_eq_false fun q => c (by injection q)
    rw [z]
    exact k
end
end Wp
set_option Elab.async false
set_option linter.all false
set_option maxRecDepth 100000
set_option maxHeartbeats 4000000
namespace Wp
open PySem PySem.Spec PyProof.Rows L2 L2H
/-! ## what a kind tells -/
/-- the fields, by the object that bears them -/
def FsS (K : PySem.W.Frag) (CF : Addr) (H : Hp) (v : V) (us : List V) : Option (List Item) → Prop
  | some its => ∃ a : Addr, v = .ref a ∧ (H a = some (.lst us) ∨ H a = some (.tup us)) ∧ Paired (ItAt K CF H) us its ∧ its.length ≤ 1000
  | none => ∃ d : PyData, Dq K H v d ∧ (isLst d || isTup d) = false
section
variable {K : PySem.W.Frag} {CF : Addr} {H0 H H' : Hp} {l p c : Addr} {ns : List Int} {x0 : V} {us us' : List V} {o : Option (List Item)}
theorem FsS.weak (h : FsS K CF H x0 us o) : FsU K CF H x0 us o := by
  cases o with
  | none => exact h
  | some its =>
    obtain ⟨a, e, q, z⟩ := h
    exact ⟨a, e, q.elim (fun q => .inl (SqL.of q)) fun q => .inr (SqT.of q), z⟩
theorem PartL.fsS {q : Part} (h : PartL K CF H0 H l x0 q) : ∃ us, FsS K CF H x0 us q.fsO := by
  cases q with
  | fs its =>
    have q := h.2.1 H Evo.refl
    have l := h.1
    cases q with
    | lst e q => exact ⟨_, _, rfl, .inl e, q, by omega⟩
    | tup e q => exact ⟨_, _, rfl, .inr e, q, by omega⟩
  | d x =>
    have v := VdL.here h
    have few : ∀ ds, seqOf x = some ds → ds.length ≤ 1000 := fun ds e => by
      have w := v.s.wt
      have := length_weight ds
      cases x <;> cases e
      · simp only [PyData.weight] at w
        omega
      · simp only [PyData.weight] at w
        omega
    have sh : ∀ ds, seqOf x = some ds → SeqAt.shaped (.list ds) = true := fun ds e => by
      have q := v.q
      cases q with
      | dct _ => cases e
      | dat q sh =>
        cases x <;> cases e
        · exact sh
        · simpa [SeqAt.shaped, PyData.canLay0, PyData.depth] using sh
    cases x with
    | list ds =>
      obtain ⟨a, us, e1, e2, _, e4⟩ := v.o.1 ds rfl
      exact ⟨us, a, e1, .inl e2, items_d e4 (shaped_item (sh _ rfl)), by rw [List.length_map]; exact few _ rfl⟩
    | tuple ds =>
      obtain ⟨a, us, e1, e2, e4⟩ := v.o.2 ds rfl
      exact ⟨us, a, e1, .inr e2, items_d e4 (shaped_item (sh _ rfl)), by rw [List.length_map]; exact few _ rfl⟩
    | none => exact ⟨[], .none, v.q, rfl⟩
    | bool b => exact ⟨[], _, v.q, rfl⟩
    | int b => exact ⟨[], _, v.q, rfl⟩
    | str b => exact ⟨[], _, v.q, rfl⟩
    | dict b => exact ⟨[], _, v.q, rfl⟩
/-- the same things stand in it as long as the object is not written -/
theorem FsS.eq {its : List Item} (h : FsS K CF H x0 us (some its)) (h' : FsS K CF H' x0 us' (some its)) (k : ∀ a y, x0 = .ref a → H a = some y → (y = .lst us ∨ y = .tup us) → H' a = some y) : us = us' := by
  obtain ⟨a, e, q, _⟩ := h
  obtain ⟨a', e', q', _⟩ := h'
  rw [e] at e'
  injection e' with e'
  subst e'
  rcases q with q | q
  · have z := k a _ e q (.inl rfl)
    rcases q' with q' | q'
    · rw [z] at q'
      cases q'
      rfl
    · rw [z] at q'
      cases q'
  · have z := k a _ e q (.inr rfl)
    rcases q' with q' | q'
    · rw [z] at q'
      cases q'
    · rw [z] at q'
      cases q'
      rfl
theorem TyX.same {v : V} {t : Value} (h : TyX K H v t) (s : Same H H') : TyX K H' v t := by
  cases h with
  | base h =>
    refine .base ?_
    cases h with
    | non => exact .non
    | bl x => exact .bl x
    | int i => exact .int i
    | str x => exact .str x
    | flt x => exact .flt x
    | lst e => exact .lst (s _ _ e)
    | frz e => exact .frz (s _ _ e)
    | tup e => exact .tup (s _ _ e)
    | dK e => exact .dK (s _ _ e)
    | dT e => exact .dT (s _ _ e)
    | ins e a b c d f => exact .ins (s _ _ e) a b c d f
  | byt b => exact .byt b
  | set e => exact .set (s _ _ e)
  | kList e c => exact .kList e c
  | kTuple e c => exact .kTuple e c
  | kDict e c => exact .kDict e c
  | fTuple e => exact .fTuple (s _ _ e)
  | fDict e => exact .fDict (s _ _ e)
end
/-- what a right kind is made of, as data -/
structure Six (K : PySem.W.Frag) (un ub uf uh uk ur : V) (n b f h k r : PyData) : Prop where
  dp : ∀ H : Hp, DpAll K H [un, ub, uf, uh, uk, ur] [n, b, f, h, k, r]
  sh : SeqAt.shaped (.list [n, b, f, h, k, r]) = true
  sz : Sz (.list [n, b, f, h, k, r])
  no : NoC (PyData.shownAll [n, b, f, h, k, r])
  el : ∀ x ∈ [n, b, f, h, k, r], El x
theorem bool_noC (b : Bool) : 44 ∉ (PyData.shown (.bool b)).cps.toList := by cases b <;> decide +kernel
theorem el_noC {d : PyData} (h : El d) : 44 ∉ (PyData.shown d).cps.toList := by
  cases d with
  | none => exact none_noC
  | bool b => exact bool_noC b
  | int i => exact int_noC i
  | str x => exact plain_noC h
  | _ => exact h.elim
theorem el_shp {K : PySem.W.Frag} {H : Hp} {v : V} {d : PyData} (h : El d) (q : Dq K H v d) : (∀ H', Dp K H' v d) ∧ d.canLay0 = true := by
  have z := q.shp fun kvs z => by
    rw [z] at h
    exact h
  refine ⟨fun H' => ?_, z.2⟩
  have y := z.1
  cases y with
  | non => exact .non
  | bl b => exact .bl b
  | int i => exact .int i
  | str x => exact .str x
  | lst _ _ => exact h.elim
  | tup _ _ => exact h.elim
theorem six_of {K : PySem.W.Frag} {H : Hp} {un ub uf uh uk ur : V} {n b f h k r : PyData} {o : Option (List Item)} (right : kindRight n o b f h k r = true) (vn : Vd K H un n) (vb : Vd K H ub b) (vf : Vd K H uf f) (vh : Vd K H uh h) (vk : Vd K H uk k) (vr : Vd K H ur r) :
    Six K un ub uf uh uk ur n b f h k r := by
  simp only [kindRight, namedOk, basedOk, canBe, Bool.and_eq_true] at right
  obtain ⟨⟨⟨⟨kn, kk⟩, kb⟩, _⟩, ⟨⟨⟨⟨⟨bf, bh⟩, br⟩, _⟩, _⟩, _⟩⟩ := right
  have e1 : El n := by
    have p := vn.p
    cases n <;> first | exact p | cases kn
  have e2 : El b := by
    have p := vb.p
    cases b <;> first | exact p | (simp [isNon, isKindName] at kb)
  have e3 : El f := by cases f <;> first | trivial | cases bf
  have e4 : El h := by cases h <;> first | trivial | cases bh
  have e5 : El k := by
    have p := vk.p
    cases k <;> first | exact p | (simp [isNon, isFieldName, isWordN] at kk)
  have e6 : El r := by cases r <;> first | trivial | cases br
  have q1 := el_shp e1 vn.q
  have q2 := el_shp e2 vb.q
  have q3 := el_shp e3 vf.q
  have q4 := el_shp e4 vh.q
  have q5 := el_shp e5 vk.q
  have q6 := el_shp e6 vr.q
  have sl : ∀ x ∈ [n, b, f, h, k, r], Sl x := fun x hx => by
    simp only [List.mem_cons, List.not_mem_nil, or_false] at hx
    rcases hx with rfl | rfl | rfl | rfl | rfl | rfl
    · exact vn.s
    · exact vb.s
    · exact vf.s
    · exact vh.s
    · exact vk.s
    · exact vr.s
  refine ⟨fun H' => .cons (q1.1 H') (.cons (q2.1 H') (.cons (q3.1 H') (.cons (q4.1 H') (.cons (q5.1 H') (.cons (q6.1 H') .nil))))), ?_, sz_list sl (by show 6 ≤ 8; decide), ⟨el_noC e1, el_noC e2, el_noC e3, el_noC e4, el_noC e5, trivial⟩, fun x hx => ?_⟩
  · have cl : PyData.canLayAll0 [n, b, f, h, k, r] = true := by simp only [PyData.canLayAll0, q1.2, q2.2, q3.2, q4.2, q5.2, q6.2, Bool.and_self]
    have dp := (sl_all _ sl).2.1
    rw [SeqAt.shaped, show (PyData.list [n, b, f, h, k, r]).canLay0 = true from by simpa only [PyData.canLay0] using cl, Bool.true_and, decide_eq_true_eq, PyData.depth]
    omega
  · simp only [List.mem_cons, List.not_mem_nil, or_false] at hx
    rcases hx with rfl | rfl | rfl | rfl | rfl | rfl
    · exact e1
    · exact e2
    · exact e3
    · exact e4
    · exact e5
    · exact e6
abbrev lKT : Stmt := top 58
abbrev nKT : List Str := ["_law_parts", "_law_handed", "_law_kind", "e", "_law_told", "_law_k"]
def spKT (K : PySem.W.Frag) (CF : Addr) : Sp := fun vs H Q _ => ∃ (l hd : Addr) (un ufs ub uf uh uk ur : V) (n b f h k r d : PyData) (o : Option (List Item)) (us hs : List V), vs = [.ref l, .ref hd] ∧ H l = some (.lst [un, ufs, ub, uf, uh, uk, ur]) ∧ H hd = some (.lst hs) ∧
  Vd K H un n ∧ FsU K CF H ufs us o ∧ Vd K H ub b ∧ Vd K H uf f ∧ Vd K H uh h ∧ Vd K H uk k ∧ Vd K H ur r ∧ (∀ its, o = some its → hs = us) ∧ hs.length ≤ 1000 ∧
  TyX K H ufs (.type (tyN d)) ∧ (isLst d = true → ∃ (a : Addr) (xs : List V), ufs = .ref a ∧ H a = some (.lst xs) ∧ xs.length ≤ 11 ∧ a ≠ l ∧ a ≠ hd) ∧
  ∀ H', (Same H H' ∨ ∃ (a : Addr) (xs : List V), ufs = .ref a ∧ H a = some (.lst xs) ∧ xs.length ≤ 11 ∧ But a H H') → Q (.bl true) H'
theorem takesN0 {X : Cx} : L2N.Takes X (fun _ _ _ _ => False) := fun _ _ ⟨_, _, _, _, _, _, _, _, _, _, _, _, _, _, _, _, z⟩ => z.elim
section
variable {P : Program} {w : World} {K : PySem.W.Frag} {mg : Str → Option Value} {base : Heap}
theorem scKT : FnScope nKT ["_law_parts", "_law_handed"] (defScope lKT) := ⟨rfl, rfl, rfl, by decide +kernel, rfl, by decide +kernel, by decide +kernel⟩
theorem hotS {X : Cx} {a : Addr} {oe : Obj} {cls : Value} {d : Option Addr} {pn : List (Addr × Obj)} (hz : L2N.Zn cls d oe) (hf : ∃ vs, oe.data = .fields vs) : HotC (X.suite a ((a, oe) :: pn)) := by
  obtain ⟨vs, hv⟩ := hf
  exact ⟨(a, oe), ⟨rfl, vs, hv, hz.2.2 vs hv⟩, List.mem_cons_self⟩
theorem roomS {X : Cx} {a : Addr} {pn : List (Addr × Obj)} {k : Nat} (hr : Room k X.A) : RoomH k (X.suite a pn).A := ⟨hr.dp, hr.un⟩
theorem ok_KT {f f1 f2 f3 f4 f5 CF CK CB fB fE : Addr} {fd fd1 fd2 fd3 fd4 fd5 fdB fdE : FuncData} (F : Fun K "_law_kind_told" "_law_kind_told" lKT f fd) (B : Bn mg) (OF : OwnC K CF) (C : PlainC K CK ["name", "fields", "base", "frozen", "heirs", "key", "registered"])
    (KM : Known P w K mg base (L2N.CX P w) 5 "_law_kind_made" ["_law_parts"] (spKM K CF CK CB) f1 fd1) (KR : Known P w K mg base CX0 3 "_law_kind_right" ["_law_parts"] (spKR K CF) f2 fd2) (KRH : KnownH P w K mg base CX0 3 "_law_kind_right" ["_law_parts"] (spKR K CF) f3 fd3)
    (SM : KnownQ P w K mg base 1 "_law_same" ["_law_one", "_law_other"] (spSameQ K) f4 fd4) (SMH : KnownGH P w K mg base CX0 1 "_law_same" ["_law_one", "_law_other"] (spSameQ K) f5 fd5)
    (ME : Mk1 P w K mg base "BadKind" "name" CB fB fdB) (ex : PySem.W.exmOne K (.ref CB) (.ref CB) = some true) (EQ : EqF P w K mg base CF fE fdE) : GOk P w K mg base CX0 6 f fd ["_law_parts", "_law_handed"] (spKT K CF) := by
  refine gok_of F scKT (fun vs H Q E h => ?_) (fun cdv A outer s H vs Q E hG hr h => ?_)
  · obtain ⟨l, hd, un, ufs, ub, uf, uh, uk, ur, n, b, ff, hh, k, r, d, o, us, hs, rfl, _⟩ := h
    rfl
  · obtain ⟨l, hd, un, ufs, ub, uf, uh, uk, ur, n, b, ff, hh, k, r, d, o, us, hs, rfl, el, ed, vn, fu, vb, vf, vh, vk, vr, hso, few, ty, own, c⟩ := h
    have XA : XfC K CB := ⟨ME.X.hg, ME.X.hk, ME.X.hs, ME.X.hd⟩
    refine ⟨_, 
      (pss_cons (L2N.ps_try_as (i := 3) (Wout := fun _ _ _ _ => False) rfl rfl scKT.nd rfl rfl ⟨rfl, by decide, .inl ME.gC⟩ takesN0
        (fun W pn xe tk _ => pss_one (ps_set (i := 2) scKT.nd rfl (.inr rfl) (by exact (pe_callS KM.ok (hr.mono (by decide)) rfl KM.mg KM.kp KM.bi (fun σ => L2N.passAt tk σ) (pa_cons (pv 0) pa_nil)))))
        (fun a oe cls d pn hz hf => pss_one (ps_ret (pe_and (pe_not (by exact (pe_callH (E := E0S) KRH.ok (roomS (hr.mono (by decide))) (hotS hz hf) rfl KRH.mg KRH.kp KRH.bi passH (pa_cons (pv 0) pa_nil))))
          (pe_one (by exact (pe_callGH (E := E0S) hG SMH.ok (roomS (hr.mono (by decide))) (hotS hz hf) rfl SMH.mg SMH.kp SMH.bi passH (pa_cons (pe_xf XA ME.no hz.zc hf (pv 3)) (pa_cons (pe_ix (show IxR _ (rIxL K) from ix_list) (pv 0) pe_int (fun _ _ => rfl)) pa_nil)))))))))
      (pss_cons (ps_if (pt_not (pt_val (pe_call KR.ok (hr.mono (by decide)) rfl KR.mg KR.kp KR.bi .nil pass0 (pa_cons (pv 0) pa_nil)))) 
        (pss_one (ps_ret pe_bl)) pss_nil)
      (pss_cut (ps_if (pt_val (pe_callB call_isi (by rfl) B.isi boot_isi (pa_cons (pe_ix ix_list (pv 0) pe_int (fun _ _ => rfl)) (pa_cons (pe_bltn (v := .ty "list") (by rfl) B.list PyProof.Rows.boot_list rfl) pa_nil)))) 
        (pss_one (ps_expr (pe_bm PySem.F.plainAttrs_list PySem.F.slot_list_append PySem.F.type_list_append mt_append (pe_ix ix_list (pv 0) pe_int (fun _ _ => rfl)) (pa_cons pe_non pa_nil)))) pss_nil)
      (pss_cons (ps_set (i := 4) scKT.nd rfl (.inl rfl) (pe_lst (pa_cons (pe_fld (pv 2) rfl) (pa_cons (pe_fld (pv 2) rfl) (pa_cons (pe_fld (pv 2) rfl) (pa_cons (pe_fld (pv 2) rfl) (pa_cons (pe_fld (pv 2) rfl) (pa_cons (pe_fld (pv 2) rfl) pa_nil))))))))
      (pss_cons (ps_if (PW.pt (pw_or (pt_not (pt_val (pe_callG hG SM.ok (hr.mono (by decide)) rfl SM.mg SM.kp SM.bi pass0 (pa_cons (pv 4) (pa_cons (pe_op op_cat (pe_lst (pa_cons (pe_ix ix_list (pv 0) pe_int (fun _ _ => rfl)) pa_nil)) (pe_slice sl_list (pv 0) (po_some pe_int) po_none)) pa_nil))))) (pw_or1 (pt_not (pt_val (pe_callB call_isi (by rfl) B.isi boot_isi (pa_cons (pe_fld (pv 2) rfl) (pa_cons (pe_bltn (v := .ty "tuple") (by rfl) B.tuple boot_ttuple rfl) pa_nil)))))))) 
        (pss_one (ps_ret pe_bl)) pss_nil)
      (pss_one (ps_ret (pe_and (pe_cmpR op_eq (pe_callB call_len_seq (by rfl) B.len PySem.boot_len (pa_cons (pe_fld (pv 2) rfl) pa_nil)) (pe_callB call_len_seq (by rfl) B.len PySem.boot_len (pa_cons (pv 1) pa_nil)) (nomark _)) (pe_one (pe_cmpR op_eq (pe_callB call_len_seq (by rfl) B.len PySem.boot_len (pa_cons (pe_lc (own := [("_law_k", 5)]) (g := gName 5) (te := tVar 5) (tt := tTest (tOp (rOwn true K CF (spFE K CF) E0) (tOp (rIxT K) (tFld K (tVar 2) "fields") (tVar 5)) (tOp (rIxL K) (tVar 1) (tVar 5)))) rfl scKT.nd (pi_range1 rfl B.range (pa_cons (pe_callB call_len_seq (by rfl) B.len PySem.boot_len (pa_cons (pv 1) pa_nil)) pa_nil)) (blkOk_by (N := nKT) (sc := defScope lKT) (by decide +kernel)) (fun _ _ _ _ _ => pg_name (i := 5) scKT.nd rfl (Or.inl rfl)) (fun _ _ _ _ _ => pts_one (pt_cmpR (op_ownNe EQ.ok EQ.bi pass0 EQ.own (hr.mono (by decide))) (pe_ix ix_tup (pe_fld (pv 2) rfl) (pv 5) (fun _ _ => rfl)) (pe_ix ix_list (pv 1) (pv 5) (fun _ _ => rfl)) (nomark _))) (fun _ _ _ _ _ => (pv 5))) pa_nil)) pe_int (nomark _))))))))))), ?_⟩
    have k7 : K7 K CF H l un ufs ub uf uh uk ur n b ff hh k r o := ⟨SqL.of el, fu.at_, vn, vb, vf, vh, vk, vr⟩
    refine ⟨_, rfl, l, un, ufs, ub, uf, uh, uk, ur, n, b, ff, hh, k, r, o, us, rfl, SqL.of el, vn.q, fu, vb.q, vf.q, vh.q, vk.q, vr.q, vn.a, vb.a, vk.a, fun right H1 x dx tf s1 nx e1 sT => ?_, fun bad H1 e s1 ne e1 => ?_⟩
    rotate_left
    · refine ⟨true, ex, fun _ a0 na0 => ?_, fun q => Bool.noConfusion q⟩
      refine ⟨_, rfl, ?_⟩
      dsimp only [tCons, L2.tC, tNil, List.append_nil]
      refine (k7.same s1).kr fun H2 s2 => ⟨_, rfl, _, rfl, ?_⟩
      rw [bad]
      refine iteT ?_
      have s12 := s1.trans s2
      refine ⟨_, rfl, rfl, rfl, e, _, un, rfl, s2 _ _ e1, (by simp [List.lookup]), _, rfl, l, _, _, _, rfl, rfl, SqL.of (s12 _ _ el), atI_nat (j := 0) rfl, un, un, n, n, rfl, .q (vn.q.same s12), .q (vn.q.same s12), vn.s.sz, vn.s.sz, ?_⟩
      rw [decide_eq_true (p := n.shown = n.shown) rfl]
      exact c H2 (.inl s12)
    -- it was made
    refine ⟨_, rfl, ?_⟩
    dsimp only [tCons, L2.tC, tNil, List.append_nil]
    refine (k7.same s1).kr fun H2 s2 => ⟨_, rfl, ?_⟩
    rw [right]
    refine iteF ?_
    have s12 := s1.trans s2
    have e2 := s2 _ _ e1
    have sT2 := sqT_same s2 sT
    have el2 := s12 _ _ el
    have ed2 := s12 _ _ ed
    have fu2 := fu.same s12
    have ty2 := TyX.same ty s12
    refine ⟨fun σ H' => σ = [some (.ref l), some (.ref hd), some (.ref x), none, none, none] ∧ H' x = some (.ins CK dx (fsK un (.ref tf) ub uf uh uk ur)) ∧ SqT K H' tf us ∧ H' l = some (.lst [un, ufs, ub, uf, uh, uk, ur]) ∧ H' hd = some (.lst hs) ∧
      (∀ b o, Still o → H2 b = some o → H' b = some o) ∧ ∀ H'', Same H' H'' → (Same H H'' ∨ ∃ (a : Addr) (xs : List V), ufs = .ref a ∧ H a = some (.lst xs) ∧ xs.length ≤ 11 ∧ But a H H''), ?_, ?_⟩
    · refine ⟨_, rfl, l, _, _, _, rfl, rfl, SqL.of el2, atI_nat (j := 1) rfl, _, _, _, _, _, rfl, .ty "list", ty2, kit_list _, _, rfl, ?_⟩
      cases eL : isLst d with
      | false => exact iteF ⟨rfl, e2, sT2, el2, ed2, fun _ _ _ e => e, fun H'' s => .inl (s12.trans s)⟩
      | true =>
        obtain ⟨a, xs, rfl, ea, lx, nl, nh⟩ := own eL
        have ea2 := s12 _ _ ea
        refine iteT ?_
        refine ⟨_, rfl, l, _, _, _, rfl, rfl, SqL.of el2, atI_nat (j := 1) rfl, .inl ⟨rfl, _, SqL.of ea2⟩, a, xs, _, rfl, rfl, ea2, by rw [sizeLine_eq]; omega, ?_⟩
        refine ⟨rfl, (upd_ne (ne_of e2 ea2 (by intro z; cases z))).trans e2, sqT_offL sT2 ea2, (upd_ne (Ne.symm nl)).trans el2, (upd_ne (Ne.symm nh)).trans ed2, fun b y st e => ?_, fun H'' s => .inr ⟨a, xs, rfl, ea, lx, fun b y nb e => s _ _ ?_⟩⟩
        · rw [upd_ne (fun z => by rw [z, ea2] at e; cases e; exact st)]
          exact e
        · rw [upd_ne nb]
          exact s12 _ _ e
    rintro σ H3 ⟨rfl, e3, sT3, el3, ed3, st3, fin⟩
    have lk := lk_ks un (.ref tf) ub uf uh uk ur
    refine ⟨_, rfl, x, CK, dx, _, _, rfl, e3, C.cl, C.no _ (by simp), lk.1, _, rfl, x, CK, dx, _, _, rfl, e3, C.cl, C.no _ (by simp), lk.2.2.1, _, rfl, x, CK, dx, _, _, rfl, e3, C.cl, C.no _ (by simp), lk.2.2.2.1, _, rfl, x, CK, dx, _, _, rfl, e3, C.cl, C.no _ (by simp), lk.2.2.2.2.1,
      _, rfl, x, CK, dx, _, _, rfl, e3, C.cl, C.no _ (by simp), lk.2.2.2.2.2.1, _, rfl, x, CK, dx, _, _, rfl, e3, C.cl, C.no _ (by simp), lk.2.2.2.2.2.2, by show 6 ≤ sizeLine; decide, fun t nt => ?_⟩
    have s4 := same_new (o := HO.lst [un, ub, uf, uh, uk, ur]) nt
    have e4 : upd H3 t (.lst [un, ub, uf, uh, uk, ur]) t = some (.lst [un, ub, uf, uh, uk, ur]) := upd_same
    generalize upd H3 t (.lst [un, ub, uf, uh, uk, ur]) = H4 at s4 e4 ⊢
    refine ⟨_, rfl, _, rfl, l, _, _, _, rfl, rfl, SqL.of (s4 _ _ el3), atI_nat (j := 0) rfl, by show 1 ≤ sizeLine; decide, fun l5 n5 => ?_⟩
    have s5 := same_new (o := HO.lst [un]) n5
    have e5 : upd H4 l5 (.lst [un]) l5 = some (.lst [un]) := upd_same
    generalize upd H4 l5 (.lst [un]) = H5 at s5 e5 ⊢
    refine ⟨_, rfl, 2, rfl, l, _, rfl, SqL.of (s5 _ _ (s4 _ _ el3)), fun l6 n6 => ?_⟩
    have s6 := same_new (o := HO.lst [ub, uf, uh, uk, ur]) n6
    have e6 : upd H5 l6 (.lst [ub, uf, uh, uk, ur]) l6 = some (.lst [ub, uf, uh, uk, ur]) := upd_same
    show rCat _ _ (upd H5 l6 (.lst [ub, uf, uh, uk, ur])) _
    generalize upd H5 l6 (.lst [ub, uf, uh, uk, ur]) = H6 at s6 e6 ⊢
    refine ⟨l5, l6, _, _, rfl, rfl, s6 _ _ e5, e6, by show 1 + 5 ≤ sizeLine; decide, fun l7 n7 => ?_⟩
    have s7 := same_new (o := HO.lst ([un] ++ [ub, uf, uh, uk, ur])) n7
    have e7 : upd H6 l7 (.lst ([un] ++ [ub, uf, uh, uk, ur])) l7 = some (.lst [un, ub, uf, uh, uk, ur]) := upd_same
    generalize upd H6 l7 (.lst ([un] ++ [ub, uf, uh, uk, ur])) = H7 at s7 e7 ⊢
    have s47 := ((s4.trans s5).trans s6).trans s7
    have six := six_of right vn vb vf vh vk vr
    dsimp only [tNil, List.append_nil]
    refine ⟨.ref t, .ref l7, .list [n, b, ff, hh, k, r], .list [n, b, ff, hh, k, r], rfl, .q (.dat (.lst (SqL.of (s7 _ _ (s6 _ _ (s5 _ _ e4)))) (six.dp _)) six.sh), .q (.dat (.lst (SqL.of e7) (six.dp _)) six.sh), six.sz, six.sz, ⟨_, rfl, ?_⟩⟩
    rw [decide_eq_true (p := (PyData.list [n, b, ff, hh, k, r]).shown = (PyData.list [n, b, ff, hh, k, r]).shown) rfl]
    refine iteF ?_
    have e3 := s47 _ _ e3
    have sT3 := sqT_same s47 sT3
    have ed3 := s47 _ _ ed3
    refine ⟨_, rfl, x, CK, dx, _, _, rfl, e3, C.cl, C.no _ (by simp), lk.2.1, _, _, _, _, _, rfl, .ty "tuple", SqT.ty sT3, kit_tuple (.tuple []), _, rfl, ?_⟩
    refine iteF ?_
    obtain ⟨its, rfl⟩ : ∃ its, o = some its := by
      cases o with
      | some its => exact ⟨its, rfl⟩
      | none => simp [kindRight, fieldsOk] at right
    obtain rfl := hso its rfl
    have af : areFields its = true := by
      simp only [kindRight, fieldsOk, Bool.and_eq_true] at right
      exact right.1.2
    simp only [areFields, Bool.and_eq_true] at af
    obtain ⟨a1, eu1, sq1, pr1, few1⟩ := fu2
    have fld : ∀ j : Nat, j < hs.length → ∃ (y : Addr) (v : FV), hs[j]? = some (.ref y) ∧ FieldAt K CF H7 y v := fun j hj => by
      obtain ⟨u, eu⟩ : ∃ u, hs[j]? = some u := ⟨hs[j], List.getElem?_eq_getElem hj⟩
      obtain ⟨it, ei, ia⟩ := paired_get pr1 eu
      have fi := List.all_eq_true.mp af.1.2 it (List.mem_of_getElem? ei)
      cases it with
      | d _ => cases fi
      | f v =>
        obtain ⟨y, rfl, fy⟩ := ia
        exact ⟨y, v, eu, (fy.still st3).sameF s47⟩
    refine ⟨_, rfl, x, CK, dx, _, _, rfl, e3, C.cl, C.no _ (by simp), lk.2.1, tf, _, rfl, .inr sT3, _, rfl, hd, _, rfl, .inl (SqL.of ed3), rfl, _, rfl, ?_⟩
    rw [decide_eq_true (p := V.int (hs.length : Int) = V.int (hs.length : Int)) rfl]
    refine iteT ?_
    refine ⟨_, rfl, hd, _, rfl, .inl (SqL.of ed3), hs.length, rfl, by omega, by omega, fun D nD => ?_⟩
    refine lc_it walk_range (fun j H' => H' = upd H7 D (.lst [])) rfl (fun _ _ _ _ => trivial) ?_ ?_
    · rintro j y H8 H8' hj rfl ⟨rfl, rfl⟩
      have hj : j < hs.length := by omega
      obtain ⟨z, v, ez, fz⟩ := fld j hj
      have sD := same_new (o := HO.lst []) nD
      have fz := fz.sameF sD
      obtain ⟨⟨dz, tz, iz, _⟩, _⟩ := id fz
      have at1 : atI hs (0 + (j : Int)) = some (.ref z) := by
        rw [Int.zero_add]
        exact atI_nat ez
      refine ⟨rfl, ⟨_, rfl, x, CK, dx, _, _, rfl, sD _ _ e3, C.cl, C.no _ (by simp), lk.2.1, _, rfl, tf, _, _, _, rfl, rfl, sqT_same sD sT3, at1, _, rfl, _, rfl, hd, _, _, _, rfl, rfl, SqL.of (sD _ _ ed3), at1, z, _, _, rfl, iz, .ins z CF _ _ iz EQ.n1, ⟨z, _, v, rfl, fz, .inl ⟨z, v, rfl, fz, _, rfl, _, rfl, ?_⟩⟩⟩⟩
      rw [decide_eq_true (p := v = v) rfl]
      exact iteF rfl
    · rintro H8 rfl
      refine ⟨D, _, rfl, .inl (SqL.of upd_same), rfl, ?_⟩
      exact c _ (fin _ (s47.trans (same_new nD)))
end
end Wp
set_option Elab.async false
set_option linter.all false
set_option maxRecDepth 100000
set_option maxHeartbeats 4000000
namespace Wp
open PySem PySem.Spec PyProof.Rows L2
/-! ## kinds, asked -/
/-- the kinds' own == -/
structure EqK (P : Program) (w : World) (K : PySem.W.Frag) (mg : Str → Option Value) (base : Heap) (CK fE : Addr) (fdE : FuncData) : Prop where
  ok : FnOk P w K mg base CX0 1 fE fdE ["self", "other"] (spKE K CK)
  bi : Binds K fdE ["self", "other"] []
  own : OwnEqual K CK fE
  n1 : PySem.W.notFirst K CK (.ref CK) = true
  n2 : PySem.W.notFirst K CK (.type "str") = true
theorem go_but {p c a : Addr} {ns : List Int} {H H' H'' : Hp} (pn : Pn p c ns H) (g : Go p c ns H H') (n : H a = none) (b : But a H' H'') : Go p c ns H H'' := by
  obtain ⟨x0, x1, x2, x3, x4, S⟩ := pn
  have pa : p ≠ a := ne_of_none S.pd n
  have ca : c ≠ a := ne_of_none S.cl n
  obtain ⟨y0, y1, y2, y3, y4, T⟩ := g.pn
  exact ⟨fun d o nd e => b d o (ne_of_none e n) (g.but d o nd e), y0, y1, y2, y3, y4, b _ _ pa T.pd, b _ _ ca T.cl, T.a0, T.m0, T.m1⟩
/-- a list in the place of the fields stands at a place of its own -/
theorem PartL.own2 {K : PySem.W.Frag} {CF : Addr} {H0 H : Hp} {l a : Addr} {q : Part} {xs : List V} (h : PartL K CF H0 H l (.ref a) q) (e : H a = some (.lst xs)) : H0 a = none ∧ a ≠ l := by
  cases q with
  | fs its => exact h.2.2 a xs rfl e
  | d x =>
    have v := VdL.here h
    have q := v.q
    cases x with
    | list ds =>
      obtain ⟨b, us, e1, _, _, e4, e5⟩ := VdL.own h
      injection e1 with e1
      subst e1
      exact ⟨e4, e5⟩
    | tuple ds =>
      obtain ⟨b, us, e1, e2, _⟩ := v.o.2 ds rfl
      injection e1 with e1
      subst e1
      rw [e] at e2
      cases e2
    | dict kvs =>
      cases q with
      | dct e2 =>
        rw [e] at e2
        cases e2
      | dat q _ => cases q
    | none => cases q with | dat q _ => cases q
    | bool b => cases q with | dat q _ => cases q
    | int b => cases q with | dat q _ => cases q
    | str b => cases q with | dat q _ => cases q
theorem paired_dropLast {α β : Type} {F : α → β → Prop} : ∀ {xs : List α} {ys : List β}, Paired F xs ys → Paired F xs.dropLast ys.dropLast
  | _, _, .nil => .nil
  | _, _, .cons a .nil => .nil
  | _, _, .cons a (.cons b t) => .cons a (paired_dropLast (.cons b t))
/-- [x[0]] + x[2:] -/
theorem head_tail {K : PySem.W.Frag} {i : Nat} {σ : L2.St} {H : Hp} {Q : VK} {l : Addr} {un ufs ub uf uh uk ur : V} (hi : σ[i]? = some (some (.ref l))) (el : H l = some (.lst [un, ufs, ub, uf, uh, uk, ur]))
    (k : ∀ H' a, Same H H' → H a = none → H' a = some (.lst [un, ub, uf, uh, uk, ur]) → Q (.ref a) H') :
    tOp rCat (tLst (tCons (tOp (rIxL K) (tVar i) (tC (.int 0))) tNil)) (tSl (rSlL K) (tVar i) (tPart (tC (.int 2))) tNoPart) σ H Q := by
  refine ⟨_, hi, l, _, _, _, rfl, rfl, SqL.of el, atI_nat (j := 0) rfl, by show 1 ≤ sizeLine; decide, fun l5 n5 => ?_⟩
  have s5 := same_new (o := HO.lst [un]) n5
  have e5 : upd H l5 (.lst [un]) l5 = some (.lst [un]) := upd_same
  generalize upd H l5 (.lst [un]) = H5 at s5 e5 ⊢
  refine ⟨_, hi, 2, rfl, l, _, rfl, SqL.of (s5 _ _ el), fun l6 n6 => ?_⟩
  have s6 := same_new (o := HO.lst [ub, uf, uh, uk, ur]) n6
  have e6 : upd H5 l6 (.lst [ub, uf, uh, uk, ur]) l6 = some (.lst [ub, uf, uh, uk, ur]) := upd_same
  show rCat _ _ (upd H5 l6 (.lst [ub, uf, uh, uk, ur])) _
  generalize upd H5 l6 (.lst [ub, uf, uh, uk, ur]) = H6 at s6 e6 ⊢
  refine ⟨l5, l6, _, _, rfl, rfl, s6 _ _ e5, e6, by show 1 + 5 ≤ sizeLine; decide, fun l7 n7 => ?_⟩
  exact k _ l7 ((s5.trans s6).trans (same_new n7)) (none_of (s5.trans s6) n7) upd_same
def tD : Option Str → PyData
  | none => .none
  | some x => .str x
theorem tD_inj {a b : Option Str} (h : tD a = tD b) : a = b := by
  cases a <;> cases b <;> cases h <;> rfl
/-- a right kind's parts -/
theorem kv_of {K : PySem.W.Frag} {H : Hp} {un ub uf uh uk ur : V} {n b f h k r : PyData} {o : Option (List Item)} (right : kindRight n o b f h k r = true) (vn : Vd K H un n) (vb : Vd K H ub b) (vf : Vd K H uf f) (vh : Vd K H uh h) (vk : Vd K H uk k) (vr : Vd K H ur r) (c : Nat) :
    ∃ v : KV, v.c = c ∧ n = .str v.n ∧ b = tD v.b ∧ f = .bool v.f ∧ h = .bool v.h ∧ k = tD v.k ∧ r = .bool v.r ∧ un = .str v.n ∧ ub = tv v.b ∧ uf = .bl v.f ∧ uh = .bl v.h ∧ uk = tv v.k ∧ ur = .bl v.r := by
  simp only [kindRight, namedOk, basedOk, canBe, Bool.and_eq_true] at right
  obtain ⟨⟨⟨⟨kn, kk⟩, kb⟩, _⟩, ⟨⟨⟨⟨⟨bf, bh⟩, br⟩, _⟩, _⟩, _⟩⟩ := right
  obtain ⟨zn, rfl⟩ : ∃ z, n = .str z := by cases n <;> first | exact ⟨_, rfl⟩ | cases kn
  obtain ⟨zb, rfl⟩ : ∃ z, b = tD z := by cases b <;> first | exact ⟨none, rfl⟩ | exact ⟨some _, rfl⟩ | (simp [isNon, isKindName] at kb)
  obtain ⟨zk, rfl⟩ : ∃ z, k = tD z := by cases k <;> first | exact ⟨none, rfl⟩ | exact ⟨some _, rfl⟩ | (simp [isNon, isFieldName, isWordN] at kk)
  obtain ⟨zf, rfl, rfl⟩ := vf.q.bool_of bf
  obtain ⟨zh, rfl, rfl⟩ := vh.q.bool_of bh
  obtain ⟨zr, rfl, rfl⟩ := vr.q.bool_of br
  obtain rfl := vn.q.str_of
  have tvq : ∀ {u : V} {z : Option Str}, Dq K H u (tD z) → u = tv z := fun {u z} q => by
    cases z with
    | none => cases q with | dat q _ => cases q; rfl
    | some x => exact q.str_of
  exact ⟨⟨zn, c, zb, zf, zh, zk, zr⟩, rfl, rfl, rfl, rfl, rfl, rfl, rfl, rfl, tvq vb.q, rfl, rfl, tvq vk.q, rfl⟩
theorem six_inj {K : PySem.W.Frag} {un ub uf uh uk ur yn yb yf yh yk yr : V} {n b f h k r n' b' f' h' k' r' : PyData} (s : Six K un ub uf uh uk ur n b f h k r) (t : Six K yn yb yf yh yk yr n' b' f' h' k' r')
    (e : (PyData.list [n, b, f, h, k, r]).shown = (PyData.list [n', b', f', h', k', r']).shown) : n = n' ∧ b = b' ∧ f = f' ∧ h = h' ∧ k = k' ∧ r = r' := by
  have q := list_inj (ds := [n, b, f, h, k, r]) (es := [n', b', f', h', k', r']) rfl s.no t.no e
  simp only [PyData.shownAll, List.cons.injEq, and_true] at q
  obtain ⟨a0, a1, a2, a3, a4, a5⟩ := q
  exact ⟨el_inj (s.el _ (by simp)) (t.el _ (by simp)) a0, el_inj (s.el _ (by simp)) (t.el _ (by simp)) a1, el_inj (s.el _ (by simp)) (t.el _ (by simp)) a2, el_inj (s.el _ (by simp)) (t.el _ (by simp)) a3, el_inj (s.el _ (by simp)) (t.el _ (by simp)) a4, el_inj (s.el _ (by simp)) (t.el _ (by simp)) a5⟩
/-- all are fields: their places -/
theorem refs_of {K : PySem.W.Frag} {CF : Addr} {H : Hp} {us : List V} {its : List Item} (h : Paired (ItAt K CF H) us its) (a : its.all isF = true) : ∃ xs : List Addr, us = xs.map V.ref := by
  induction h with
  | nil => exact ⟨[], rfl⟩
  | @cons x y xs ys p _ ih =>
    simp only [List.all_cons, Bool.and_eq_true] at a
    obtain ⟨zs, rfl⟩ := ih a.2
    cases y with
    | d _ => cases a.1
    | f v =>
      obtain ⟨z, rfl, _⟩ := p
      exact ⟨z :: zs, rfl⟩
theorem KindAt.still {K : PySem.W.Frag} {CK : Addr} {H H' : Hp} {a : Addr} {v : KV} {xs : List Addr} (h : KindAt K CK H a v xs) (s : ∀ b o, Still o → H b = some o → H' b = some o) : KindAt K CK H' a v xs := by
  obtain ⟨⟨dx, tf, e, sq⟩, l⟩ := h
  refine ⟨⟨dx, tf, s _ _ trivial e, ?_⟩, l⟩
  rcases sq with (sq | ⟨o, sq⟩) | sq
  · exact .inl (.inl (s _ _ trivial sq))
  · exact .inl (.inr ⟨o, s _ _ trivial sq⟩)
  · exact .inr sq
abbrev lKA : Stmt := top 59
abbrev nKA : List Str := ["_law_pen_here", "_law_names", "_law_pool", "_law_parts", "_law_again", "_law_handed", "_law_at", "_law_alike", "_law_one", "_law_other"]
def spKA (K : PySem.W.Frag) : Sp := fun vs H Q _ => ∃ (p c : Addr) (ns : List Int) (qn qp : Addr) (ks ws : List Str), vs = [.ref p, .ref qn, .ref qp] ∧ Pn p c ns H ∧ Names K H qn ks ∧ ks.length = 3 ∧ Pool K H qp ws ∧ ws.length = 12 ∧
  ∀ H' : Hp, Go p c ns H H' → Q (.bl true) H'
section
variable {P : Program} {w : World} {K : PySem.W.Frag} {mg : Str → Option Value} {base : Heap}
theorem scKA : FnScope nKA ["_law_pen_here", "_law_names", "_law_pool"] (defScope lKA) := ⟨rfl, rfl, rfl, by decide +kernel, rfl, by decide +kernel, by decide +kernel⟩
theorem ok_KA {f f1 f2 f3 f4 f5 f6 CF CK CB fE : Addr} {fd fd1 fd2 fd3 fd4 fd5 fd6 fdE : FuncData} (F : Fun K "_law_kinds_asked" "_law_kinds_asked" lKA f fd) (B : Bn mg) (T : Known P w K mg base CX0 1 "_law_take" ["_law_pen_here", "_law_bound"] spTake f1 fd1)
    (KP : KnownQ P w K mg base 8 "_law_kind_parts" ["_law_pen_here", "_law_names", "_law_pool"] (spKP K CF) f2 fd2)
    (KM : Known P w K mg base (L2N.CX P w) 5 "_law_kind_made" ["_law_parts"] (spKM K CF CK CB) f3 fd3) (KR : Known P w K mg base CX0 3 "_law_kind_right" ["_law_parts"] (spKR K CF) f4 fd4)
    (SM : KnownQ P w K mg base 1 "_law_same" ["_law_one", "_law_other"] (spSameQ K) f5 fd5) (KT : KnownQ P w K mg base 6 "_law_kind_told" ["_law_parts", "_law_handed"] (spKT K CF) f6 fd6)
    (EQ : EqK P w K mg base CK fE fdE) : GOk P w K mg base CX0 9 f fd ["_law_pen_here", "_law_names", "_law_pool"] (spKA K) := by
  refine gok_of F scKA (fun vs H Q E h => ?_) (fun cdv A outer s H vs Q E hG hr h => ?_)
  · obtain ⟨p, c, ns, qn, qp, ks, ws, rfl, _⟩ := h
    rfl
  · obtain ⟨p, c, ns, qn, qp, ks, ws, rfl, pn, nm, lk, po, lw, k⟩ := h
    refine ⟨_, 
      (pss_cons (ps_set (i := 3) scKA.nd rfl (.inl rfl) (pe_callG hG KP.ok (hr.mono (by decide)) rfl KP.mg KP.kp KP.bi pass0 (pa_cons (pv 0) (pa_cons (pv 1) (pa_cons (pv 2) pa_nil)))))
      (pss_cons (ps_set (i := 4) scKA.nd rfl (.inl rfl) (pe_callTy call_list_of (by rfl) B.list PyProof.Rows.boot_list (pa_cons (pv 3) pa_nil)))
      (pss_cons (ps_set (i := 5) scKA.nd rfl (.inl rfl) (pe_lst pa_nil))
      (pss_cut (ps_if (pt_val (pe_callB call_isiT (by rfl) B.isi boot_isi (pa_cons (pe_ix ix_list (pv 3) pe_int (fun _ _ => rfl)) (pa_cons (pe_tup (pa_cons (pe_bltn (v := .ty "list") (by rfl) B.list PyProof.Rows.boot_list rfl) (pa_cons (pe_bltn (v := .ty "tuple") (by rfl) B.tuple boot_ttuple rfl) pa_nil))) pa_nil)))) 
        (pss_cons (ps_set (i := 5) scKA.nd rfl (.inl rfl) (pe_callTy call_list_of (by rfl) B.list PyProof.Rows.boot_list (pa_cons (pe_ix ix_list (pv 3) pe_int (fun _ _ => rfl)) pa_nil)))
        (pss_one (ps_asg (pe_callTy call_list_of (by rfl) B.list PyProof.Rows.boot_list (pa_cons (pe_ix ix_list (pv 3) pe_int (fun _ _ => rfl)) pa_nil)) (pg_sub (pv 4) pe_int set_list)))) pss_nil)
      (pss_cons (ps_set (i := 6) scKA.nd rfl (.inl rfl) (pe_call T.ok (hr.mono (by decide)) rfl T.mg T.kp T.bi .nil pass0 (pa_cons (pv 0) (pa_cons pe_int pa_nil))))
      (pss_cut (ps_if (pt_cmpR op_ne (pv 6) pe_int (nomark _)) 
        (pss_one (ps_asg (pe_ix ix_list (pe_callG hG KP.ok (hr.mono (by decide)) rfl KP.mg KP.kp KP.bi pass0 (pa_cons (pv 0) (pa_cons (pv 1) (pa_cons (pv 2) pa_nil)))) (pv 6) (fun _ _ => rfl)) (pg_sub (pv 4) (pv 6) set_list))) 
        (pss_one (ps_if (PW.pt (pw_and (pt_val (pe_call KR.ok (hr.mono (by decide)) rfl KR.mg KR.kp KR.bi .nil pass0 (pa_cons (pv 3) pa_nil))) (pw_and1 (pt_cmpR op_gt (pe_callB call_len_seq (by rfl) B.len PySem.boot_len (pa_cons (pe_ix ix_list (pv 4) pe_int (fun _ _ => rfl)) pa_nil)) pe_int (nomark _))))) 
          (pss_one (ps_expr (pe_bm0 PySem.F.plainAttrs_list PySem.F.slot_list_pop PySem.F.type_list_pop mt_pop (pe_ix ix_list (pv 4) pe_int (fun _ _ => rfl))))) pss_nil)))
      (pss_cons (ps_if (PW.pt (pw_or (pt_not (pt_val (pe_call KR.ok (hr.mono (by decide)) rfl KR.mg KR.kp KR.bi .nil pass0 (pa_cons (pv 3) pa_nil)))) (pw_or1 (pt_not (pt_val (pe_call KR.ok (hr.mono (by decide)) rfl KR.mg KR.kp KR.bi .nil pass0 (pa_cons (pv 4) pa_nil))))))) 
        (pss_one (ps_ret (pe_callG hG KT.ok (hr.mono (by decide)) rfl KT.mg KT.kp KT.bi pass0 (pa_cons (pv 3) (pa_cons (pv 5) pa_nil))))) pss_nil)
      (pss_cut (ps_set (i := 7) scKA.nd rfl (.inl rfl) (pe_and (pe_callG hG SM.ok (hr.mono (by decide)) rfl SM.mg SM.kp SM.bi pass0 (pa_cons (pe_op op_cat (pe_lst (pa_cons (pe_ix ix_list (pv 3) pe_int (fun _ _ => rfl)) pa_nil)) (pe_slice sl_list (pv 3) (po_some pe_int) po_none)) (pa_cons (pe_op op_cat (pe_lst (pa_cons (pe_ix ix_list (pv 4) pe_int (fun _ _ => rfl)) pa_nil)) (pe_slice sl_list (pv 4) (po_some pe_int) po_none)) pa_nil))) (pe_one (pe_cmpR op_eq (pe_callB call_len_seq (by rfl) B.len PySem.boot_len (pa_cons (pv 5) pa_nil)) (pe_callB call_len_seq (by rfl) B.len PySem.boot_len (pa_cons (pe_ix ix_list (pv 4) pe_int (fun _ _ => rfl)) pa_nil)) (nomark _)))))
      (pss_cons (ps_set (i := 8) scKA.nd rfl (.inl rfl) (pe_call KM.ok (hr.mono (by decide)) rfl KM.mg KM.kp KM.bi .nil passN (pa_cons (pv 3) pa_nil)))
      (pss_cons (ps_set (i := 9) scKA.nd rfl (.inl rfl) (pe_call KM.ok (hr.mono (by decide)) rfl KM.mg KM.kp KM.bi .nil passN (pa_cons (pv 4) pa_nil)))
      (pss_cons (ps_if (pt_not (pt_val (pe_callG hG KT.ok (hr.mono (by decide)) rfl KT.mg KT.kp KT.bi pass0 (pa_cons (pv 3) (pa_cons (pv 5) pa_nil))))) 
        (pss_one (ps_ret pe_bl)) pss_nil)
      (pss_one (ps_ret (pe_and (pe_cmpR op_eq (pe_cmpR (op_ownEq EQ.ok EQ.bi pass0 EQ.own (hr.mono (by decide))) (pv 8) (pv 9) (nomark _)) (pv 7) (nomark _)) (pe_and (pe_cmpR op_ne (pe_cmpR (op_ownNe EQ.ok EQ.bi pass0 EQ.own (hr.mono (by decide))) (pv 8) (pv 9) (nomark _)) (pv 7) (nomark _)) (pe_one (pe_cmpR (op_ownNe EQ.ok EQ.bi pass0 EQ.own (hr.mono (by decide))) (pv 8) (pe_ix ix_list (pv 3) pe_int (fun _ _ => rfl)) (nomark _)))))))))))))))))), ?_⟩
    refine ⟨_, rfl, _, rfl, _, rfl, ?_⟩
    dsimp only [tCons, L2.tC, tNil, List.append_nil]
    refine ⟨p, c, ns, qn, qp, ks, ws, rfl, pn, nm, lk, po, lw, fun l us qs H1 nl ka g1 => ?_⟩
    obtain ⟨un, ufs, ub, uf, uh, uk, ur, n, b, f, hh, k', r, q, rfl, rfl, _⟩ := ka.seven
    have np : l ≠ p := Go.ne g1.pn ka.eq (by intro x z; cases z)
    -- what holds of the parts later
    have later : ∀ H', (∀ b o, b ≠ p → H1 b = some o → H' b = some o) → VdL K H H' l un n ∧ PartL K CF H H' l ufs q ∧ VdL K H H' l ub b ∧ VdL K H H' l uf f ∧ VdL K H H' l uh hh ∧ VdL K H H' l uk k' ∧ VdL K H H' l ur r ∧ H' l = some (.lst [un, ufs, ub, uf, uh, uk, ur]) := fun H' kp => by
      have e := kp l _ np ka.eq
      have z := ka.step pn g1.pn e fun b o n1 _ => kp b o n1
      obtain ⟨_, _, _, _, _, _, _, _, _, _, _, _, _, _, e1, e2, a⟩ := z.seven
      cases e1
      cases e2
      exact ⟨a.1, a.2.1, a.2.2.1, a.2.2.2.1, a.2.2.2.2.1, a.2.2.2.2.2.1, a.2.2.2.2.2.2, e⟩
    obtain ⟨_, pl1, _⟩ := later H1 fun _ _ _ e => e
    obtain ⟨us1, fs1⟩ := PartL.fsS pl1
    have later2 : ∀ H' its, q.fsO = some its → (∀ b o, b ≠ p → H1 b = some o → H' b = some o) → FsS K CF H' ufs us1 (some its) := fun H' its eo kp => by
      obtain ⟨us2, fs2⟩ := PartL.fsS (later H' kp).2.1
      rw [eo] at fs1 fs2
      have e := FsS.eq fs1 fs2 fun a y _ e h => kp a y (Go.ne g1.pn e (by rcases h with rfl | rfl <;> (intro x z; cases z))) e
      rw [e]
      exact fs2
    have lu1 : ∀ its, q.fsO = some its → us1.length = its.length ∧ us1.length ≤ 1000 := fun its eo => by
      rw [eo] at fs1
      obtain ⟨_, _, _, pr, few⟩ := fs1
      have := pr.length
      omega
    refine ⟨_, rfl, l, _, rfl, .inl (SqL.of ka.eq), fun lg nlg => ?_⟩
    have s2 := same_new (o := HO.lst [un, ufs, ub, uf, uh, uk, ur]) nlg
    have eg2 : upd H1 lg (.lst [un, ufs, ub, uf, uh, uk, ur]) lg = some (.lst [un, ufs, ub, uf, uh, uk, ur]) := upd_same
    generalize upd H1 lg (.lst [un, ufs, ub, uf, uh, uk, ur]) = H2 at s2 eg2 ⊢
    refine ⟨by show 0 ≤ sizeLine; decide, fun hd nhd => ?_⟩
    have s3 := same_new (o := HO.lst []) nhd
    have eh3 : upd H2 hd (.lst []) hd = some (.lst []) := upd_same
    have ngh : lg ≠ hd := fun z => by rw [← z, eg2] at nhd; cases nhd
    generalize upd H2 hd (.lst []) = H3 at s3 eh3 ⊢
    have eg3 := s3 _ _ eg2
    have s13 := s2.trans s3
    have g3 := g1.trans (Go.of g1.pn s13)
    have nhd1 := none_of s2 nhd
    refine ⟨fun σ H' => Go p c ns H H' ∧ (∀ b o, b ≠ p → H1 b = some o → H' b = some o) ∧ ∃ hd hs yfs, σ = [some (.ref p), some (.ref qn), some (.ref qp), some (.ref l), some (.ref lg), some (.ref hd), none, none, none, none] ∧ H' lg = some (.lst [un, yfs, ub, uf, uh, uk, ur]) ∧
      H' hd = some (.lst hs) ∧ H1 hd = none ∧ lg ≠ hd ∧ hs.length ≤ 1000 ∧ (∀ its, q.fsO = some its → hs = us1 ∧ ∃ lh, yfs = .ref lh ∧ H' lh = some (.lst us1) ∧ H1 lh = none ∧ lh ≠ lg ∧ lh ≠ hd), ?_, ?_⟩
    · have kp3 : ∀ b o, b ≠ p → H1 b = some o → H3 b = some o := fun b o _ e => s13 _ _ e
      refine ⟨_, rfl, l, _, _, _, rfl, rfl, SqL.of (later H3 kp3).2.2.2.2.2.2.2, atI_nat (j := 1) rfl, by show 2 ≤ sizeLine; decide, fun T nT => ?_⟩
      have s4 := same_new (o := HO.tup [V.ty "list", V.ty "tuple"]) nT
      have e4 : upd H3 T (.tup [.ty "list", .ty "tuple"]) T = some (.tup [.ty "list", .ty "tuple"]) := upd_same
      generalize upd H3 T (.tup [.ty "list", .ty "tuple"]) = H4 at s4 e4 ⊢
      have eg4 := s4 _ _ eg3
      have eh4 := s4 _ _ eh3
      have s14 := s13.trans s4
      have kp4 : ∀ b o, b ≠ p → H1 b = some o → H4 b = some o := fun b o _ e => s14 _ _ e
      have g4 := g1.trans (Go.of g1.pn s14)
      obtain ⟨d, ty, eq, own⟩ := PartL.ty (later H4 kp4).2.1
      refine ⟨ufs, T, [.ty "list", .ty "tuple"], _, [.type "list", .type "tuple"], _, rfl, e4, .cons (.ty _) (.cons (.ty _) .nil), ty, kit_seq d, _, rfl, ?_⟩
      rw [eq]
      cases eo : q.fsO with
      | none => exact iteF ⟨g4, kp4, hd, [], ufs, rfl, eg4, eh4, nhd1, ngh, Nat.zero_le _, fun its e => by cases e⟩
      | some its =>
        refine iteT ?_
        obtain ⟨a, eu, sq, pr, few⟩ := later2 H4 its eo kp4
        have sqs : SqL K H4 a us1 ∨ SqT K H4 a us1 := sq.elim (fun z => .inl (SqL.of z)) fun z => .inr (SqT.of z)
        subst eu
        refine ⟨_, rfl, l, _, _, _, rfl, rfl, SqL.of (later H4 kp4).2.2.2.2.2.2.2, atI_nat (j := 1) rfl, a, us1, rfl, sqs, fun h2 nh2 => ?_⟩
        have s5 := same_new (o := HO.lst us1) nh2
        have e5 : upd H4 h2 (.lst us1) h2 = some (.lst us1) := upd_same
        generalize upd H4 h2 (.lst us1) = H5 at s5 e5 ⊢
        have s15 := s14.trans s5
        have kp5 : ∀ b o, b ≠ p → H1 b = some o → H5 b = some o := fun b o _ e => s15 _ _ e
        have sq5 : SqL K H5 a us1 ∨ SqT K H5 a us1 := sqs.elim (fun z => .inl (sqL_same s5 z)) fun z => .inr (sqT_same s5 z)
        refine ⟨_, rfl, l, _, _, _, rfl, rfl, SqL.of (later H5 kp5).2.2.2.2.2.2.2, atI_nat (j := 1) rfl, a, us1, rfl, sq5, fun lh nlh => ?_⟩
        have s6 := same_new (o := HO.lst us1) nlh
        have e6 : upd H5 lh (.lst us1) lh = some (.lst us1) := upd_same
        generalize upd H5 lh (.lst us1) = H6 at s6 e6 ⊢
        have eg6 := s6 _ _ (s5 _ _ eg4)
        have eh6 := s6 _ _ e5
        have s16 := s15.trans s6
        have n1 : H1 lg = none := nlg
        have ngl : lg ≠ lh := fun z => by rw [← z, s5 _ _ eg4] at nlh; cases nlh
        have nhl : h2 ≠ lh := fun z => by rw [← z, e5] at nlh; cases nlh
        have ngh2 : lg ≠ h2 := fun z => by rw [← z, eg4] at nh2; cases nh2
        refine ⟨_, rfl, lg, _, _, 1, rfl, rfl, eg6, by rfl, ?_⟩
        refine ⟨Go.over pn (g1.trans (Go.of g1.pn s16)) (Go.none g1 nlg), fun b o _ e => ?_, h2, us1, .ref lh, rfl, upd_same, (upd_ne (Ne.symm ngh2)).trans eh6, none_of s14 nh2, ngh2, (lu1 its eo).2, fun its' e => ⟨rfl, lh, rfl, (upd_ne (Ne.symm ngl)).trans e6, none_of s15 nlh, Ne.symm ngl, Ne.symm nhl⟩⟩
        rw [upd_ne (ne_of_none e nlg)]
        exact s16 _ _ e
    clear eg2 eg3 eh3 s2 s3 s13 g3 nhd nhd1 ngh
    rintro σ H7 ⟨g7, kp7, hd, hs, yfs, rfl, eg7, eh7, nhd, ngh, few, sq7⟩
    refine ⟨_, rfl, ?_⟩
    dsimp only [tCons, L2.tC, tNil, List.append_nil]
    refine take_go g7.pn (b := 7) (by decide) (by decide) fun vj H8 c0 c1 g8 => ?_
    obtain ⟨j, rfl⟩ := Int.eq_ofNat_of_zero_le c0
    have npg : lg ≠ p := Go.ne g7.pn eg7 (by intro x z; cases z)
    have nph : hd ≠ p := Go.ne g7.pn eh7 (by intro x z; cases z)
    have eg8 := g8.but _ _ npg eg7
    have eh8 := g8.but _ _ nph eh7
    have kp8 : ∀ b o, b ≠ p → H1 b = some o → H8 b = some o := fun b o np e => g8.but b o np (kp7 b o np e)
    have sq8 : ∀ its, q.fsO = some its → hs = us1 ∧ ∃ lh, yfs = .ref lh ∧ H8 lh = some (.lst us1) ∧ H1 lh = none ∧ lh ≠ lg ∧ lh ≠ hd ∧ lh ≠ p := fun its e => by
      obtain ⟨e1, lh, e2, e3, e4, e5, e6⟩ := sq7 its e
      have np := Go.ne g7.pn e3 (by intro x z; cases z)
      exact ⟨e1, lh, e2, g8.but _ _ np e3, e4, e5, e6, np⟩
    have g8' := g7.trans g8
    have k7 : ∀ H', (∀ b o, b ≠ p → H1 b = some o → H' b = some o) → K7 K CF H' l un ufs ub uf uh uk ur n b f hh k' r q.fsO := fun H' kp => by
      obtain ⟨a0, a1, a2, a3, a4, a5, a6, a7⟩ := later H' kp
      exact ⟨SqL.of a7, PartL.fsAt a1, a0.here, a2.here, a3.here, a4.here, a5.here, a6.here⟩
    refine ⟨fun σ H' => Go p c ns H H' ∧ (∀ b o, b ≠ p → H1 b = some o → H' b = some o) ∧ ∃ w, σ = [some (.ref p), some (.ref qn), some (.ref qp), some (.ref l), some (.ref lg), some (.ref hd), some w, none, none, none] ∧ H' hd = some (.lst hs) ∧
      (∀ its, q.fsO = some its → hs = us1 ∧ ∃ lh us2 its2 yn yb yf yh yk yr n' b' f' h' k2 r', H' lg = some (.lst [yn, .ref lh, yb, yf, yh, yk, yr]) ∧ H' lh = some (.lst us2) ∧ Paired (ItAt K CF H') us2 its2 ∧ (us2 = us1 ∨ us2 = us1.dropLast) ∧
        Vd K H' yn n' ∧ Vd K H' yb b' ∧ Vd K H' yf f' ∧ Vd K H' yh h' ∧ Vd K H' yk k2 ∧ Vd K H' yr r'), ?_, ?_⟩
    · refine ⟨_, rfl, rfl, _, rfl, ?_⟩
      refine ite2 (fun hj => ?_) (fun hj => ?_)
      · have hj1 : j ≠ 1 := fun z => by rw [z] at hj; exact absurd hj (by decide)
        refine ⟨_, rfl, _, rfl, _, rfl, ?_⟩
        dsimp only [tCons, L2.tC, tNil, List.append_nil]
        refine ⟨p, c, ns, qn, qp, ks, ws, rfl, g8'.pn, nm.go pn g8', lk, po.go pn g8', lw, fun l9 us9 qs9 H9 nl9 ka9 g9 => ?_⟩
        have lu9 : us9.length = 7 := ka9.ps.length.trans ka9.len
        obtain ⟨x9, ex9⟩ : ∃ x, us9[j]? = some x := ⟨us9[j]'(by omega), List.getElem?_eq_getElem _⟩
        obtain ⟨q9, eq9, pl9⟩ := paired_get ka9.ps ex9
        obtain ⟨d9, rfl⟩ := ka9.dt j q9 hj1 eq9
        have eg9 := g9.but _ _ npg eg8
        have eh9 := g9.but _ _ nph eh8
        refine ⟨_, rfl, l9, _, _, _, rfl, rfl, SqL.of ka9.eq, atI_nat ex9, _, rfl, _, rfl, lg, _, _, j, rfl, rfl, eg9, ixN_of (by show j < 7; omega), ?_⟩
        have kpA : ∀ b o, b ≠ p → H1 b = some o → upd H9 lg (.lst ([un, yfs, ub, uf, uh, uk, ur].set j x9)) b = some o := fun b o np e => by
          rw [upd_ne (ne_of_none e nlg)]
          exact g9.but _ _ np (kp8 b o np e)
        have gA : Go p c ns H (upd H9 lg (.lst ([un, yfs, ub, uf, uh, uk, ur].set j x9))) := Go.over pn (g8'.trans g9) (Go.none g1 nlg)
        have ehA : upd H9 lg (.lst ([un, yfs, ub, uf, uh, uk, ur].set j x9)) hd = _ := (upd_ne (Ne.symm ngh)).trans eh9
        have v9 : Vd K (upd H9 lg (.lst ([un, yfs, ub, uf, uh, uk, ur].set j x9))) x9 d9 := pl9 _ fun b o n1 _ z => by
          rw [upd_ne (fun y => by rw [y, eg8] at n1; cases n1)]
          exact z
        have egA : upd H9 lg (.lst ([un, yfs, ub, uf, uh, uk, ur].set j x9)) lg = some (.lst ([un, yfs, ub, uf, uh, uk, ur].set j x9)) := upd_same
        have elA : ∀ lh, H8 lh = some (.lst us1) → lh ≠ lg → lh ≠ p → upd H9 lg (.lst ([un, yfs, ub, uf, uh, uk, ur].set j x9)) lh = some (.lst us1) := fun lh e n1 n2 => (upd_ne n1).trans (g9.but _ _ n2 e)
        refine ⟨gA, kpA, _, rfl, ehA, fun its eo => ?_⟩
        generalize upd H9 lg (.lst ([un, yfs, ub, uf, uh, uk, ur].set j x9)) = HA at *
        obtain ⟨e1, lh, rfl, e3, e4, e5, e6, e7⟩ := sq8 its eo
        have e8 := elA lh e3 e5 e7
        obtain ⟨_, _, _, pr, _⟩ := later2 HA its eo kpA
        obtain ⟨a0, a1, a2, a3, a4, a5, a6, a7⟩ := later HA kpA
        refine ⟨e1, lh, us1, its, ?_⟩
        match j, hj1, egA with
        | 0, _, egA => exact ⟨_, _, _, _, _, _, _, _, _, _, _, _, egA, e8, pr, .inl rfl, v9, a2.here, a3.here, a4.here, a5.here, a6.here⟩
        | 1, hj1, _ => exact absurd rfl hj1
        | 2, _, egA => exact ⟨_, _, _, _, _, _, _, _, _, _, _, _, egA, e8, pr, .inl rfl, a0.here, v9, a3.here, a4.here, a5.here, a6.here⟩
        | 3, _, egA => exact ⟨_, _, _, _, _, _, _, _, _, _, _, _, egA, e8, pr, .inl rfl, a0.here, a2.here, v9, a4.here, a5.here, a6.here⟩
        | 4, _, egA => exact ⟨_, _, _, _, _, _, _, _, _, _, _, _, egA, e8, pr, .inl rfl, a0.here, a2.here, a3.here, v9, a5.here, a6.here⟩
        | 5, _, egA => exact ⟨_, _, _, _, _, _, _, _, _, _, _, _, egA, e8, pr, .inl rfl, a0.here, a2.here, a3.here, a4.here, v9, a6.here⟩
        | 6, _, egA => exact ⟨_, _, _, _, _, _, _, _, _, _, _, _, egA, e8, pr, .inl rfl, a0.here, a2.here, a3.here, a4.here, a5.here, v9⟩
        | m + 7, _, _ => exact absurd c1 (by omega)
      · refine ⟨_, rfl, ?_⟩
        dsimp only [tCons, L2.tC, tNil, List.append_nil]
        refine (k7 H8 kp8).kr fun H9 s9 => ⟨_, rfl, ?_⟩
        have kp9 : ∀ b o, b ≠ p → H1 b = some o → H9 b = some o := fun b o np e => s9 _ _ (kp8 b o np e)
        have g9 := g8'.trans (Go.of g8'.pn s9)
        have eg9 := s9 _ _ eg8
        have eh9 := s9 _ _ eh8
        have stay : Go p c ns H H9 ∧ (∀ b o, b ≠ p → H1 b = some o → H9 b = some o) ∧ ∃ w, [some (V.ref p), some (.ref qn), some (.ref qp), some (.ref l), some (.ref lg), some (.ref hd), some (.int (j : Int)), none, none, none] = [some (.ref p), some (.ref qn), some (.ref qp), some (.ref l), some (.ref lg), some (.ref hd), some w, none, none, none] ∧ H9 hd = some (.lst hs) ∧
            (∀ its, q.fsO = some its → hs = us1 ∧ ∃ lh us2 its2 yn yb yf yh yk yr n' b' f' h' k2 r', H9 lg = some (.lst [yn, .ref lh, yb, yf, yh, yk, yr]) ∧ H9 lh = some (.lst us2) ∧ Paired (ItAt K CF H9) us2 its2 ∧ (us2 = us1 ∨ us2 = us1.dropLast) ∧
              Vd K H9 yn n' ∧ Vd K H9 yb b' ∧ Vd K H9 yf f' ∧ Vd K H9 yh h' ∧ Vd K H9 yk k2 ∧ Vd K H9 yr r') := by
          refine ⟨g9, kp9, _, rfl, eh9, fun its eo => ?_⟩
          obtain ⟨e1, lh, rfl, e3, e4, e5, e6, e7⟩ := sq8 its eo
          obtain ⟨_, _, _, pr, _⟩ := later2 H9 its eo kp9
          obtain ⟨a0, a1, a2, a3, a4, a5, a6, a7⟩ := later H9 kp9
          exact ⟨e1, lh, us1, its, _, _, _, _, _, _, _, _, _, _, _, _, eg9, s9 _ _ e3, pr, .inl rfl, a0.here, a2.here, a3.here, a4.here, a5.here, a6.here⟩
        cases er : kindRight n q.fsO b f hh k' r with
        | false => exact stay
        | true =>
          obtain ⟨its, eo⟩ : ∃ its, q.fsO = some its := by
            cases eo : q.fsO with
            | some its => exact ⟨its, rfl⟩
            | none =>
              rw [eo] at er
              simp [kindRight, fieldsOk] at er
          obtain ⟨e1, lh, ey, e3, e4, e5, e6, e7⟩ := sq8 its eo
          have e9 := s9 _ _ e3
          rw [ey] at eg9
          refine ⟨_, rfl, lg, _, _, _, rfl, rfl, SqL.of eg9, atI_nat (j := 1) rfl, lh, _, rfl, .inl (SqL.of e9), _, _, rfl, rfl, _, rfl, ?_⟩
          refine ite2 (fun hl => ?_) (fun _ => stay)
          have hl := of_decide_eq_true hl
          have hl : 0 < us1.length := by omega
          refine ⟨_, rfl, lg, _, _, _, rfl, rfl, SqL.of eg9, atI_nat (j := 1) rfl, ?_⟩
          obtain ⟨y, ey⟩ : ∃ y, us1[us1.length - 1]? = some y := ⟨us1[us1.length - 1]'(by omega), List.getElem?_eq_getElem _⟩
          refine ⟨.inl ⟨rfl, _, SqL.of e9⟩, lh, us1, y, rfl, rfl, e9, ey, ?_⟩
          have kpB : ∀ b o, b ≠ p → H1 b = some o → upd H9 lh (.lst us1.dropLast) b = some o := fun b o np e => by
            rw [upd_ne (ne_of_none e e4)]
            exact kp9 b o np e
          refine ⟨Go.over pn g9 (Go.none g1 e4), kpB, _, rfl, (upd_ne (Ne.symm e6)).trans eh9, fun its' eo' => ?_⟩
          obtain ⟨_, _, _, pr, _⟩ := later2 _ its' eo' kpB
          obtain ⟨a0, a1, a2, a3, a4, a5, a6, a7⟩ := later _ kpB
          exact ⟨e1, lh, _, _, _, _, _, _, _, _, _, _, _, _, _, _, (upd_ne (Ne.symm e5)).trans eg9, upd_same, paired_dropLast pr, .inr rfl, a0.here, a2.here, a3.here, a4.here, a5.here, a6.here⟩
    rintro σ H9 ⟨g9, kp9, w, rfl, eh9, sq9⟩
    clear sq8 eg8 eh8 kp8 g8' sq7 eg7 eh7 kp7 g7 g8
    have told : ∀ (H' : Hp) (Q' : VK) (E' : XK), (∀ b o, b ≠ p → H1 b = some o → H' b = some o) → H' hd = some (.lst hs) → Go p c ns H H' →
        (∀ H'', Go p c ns H H'' → (∀ b o, Still o → H' b = some o → H'' b = some o) → H'' l = some (.lst [un, ufs, ub, uf, uh, uk, ur]) → Q' (.bl true) H'') → spKT K CF [.ref l, .ref hd] H' Q' E' := fun H' Q' E' kp eh g' fin => by
      obtain ⟨a0, a1, a2, a3, a4, a5, a6, a7⟩ := later H' kp
      obtain ⟨d, ty, eq, own⟩ := PartL.ty a1
      obtain ⟨us, fu, hsu⟩ : ∃ us, FsU K CF H' ufs us q.fsO ∧ ∀ its, q.fsO = some its → hs = us := by
        cases eo : q.fsO with
        | some its =>
          have z := later2 H' its eo kp
          exact ⟨us1, FsS.weak z, fun its' e => (sq9 _ eo).1⟩
        | none =>
          obtain ⟨us, z⟩ := PartL.fsS a1
          rw [eo] at z
          exact ⟨us, FsS.weak z, fun its' e => by cases e⟩
      refine ⟨l, hd, un, ufs, ub, uf, uh, uk, ur, n, b, f, hh, k', r, d, q.fsO, us, hs, rfl, a7, eh, a0.here, fu, a2.here, a3.here, a4.here, a5.here, a6.here, hsu, few, ty, fun eL => ?_, fun H'' ch => ?_⟩
      · obtain ⟨a, xs, e1, e2, e3, e4, e5⟩ := own eL
        refine ⟨a, xs, e1, e2, e3, e5, fun z => ?_⟩
        cases eo : q.fsO with
        | none =>
          rw [eo] at eq
          rw [eL] at eq
          cases eq
        | some its =>
          obtain ⟨a', e1', sq', _⟩ := later2 H1 its eo fun _ _ _ e => e
          rw [e1] at e1'
          injection e1' with e1'
          rw [← e1', z, nhd] at sq'
          rcases sq' with z | z <;> cases z
      · rcases ch with s | ⟨a, xs, e1, e2, e3, bt⟩
        · exact fin H'' (g'.trans (Go.of g'.pn s)) (fun _ _ _ e => s _ _ e) (s _ _ a7)
        · subst e1
          obtain ⟨n1, n2⟩ := PartL.own2 a1 e2
          exact fin H'' (go_but pn g' n1 bt) (fun y o st e => bt y o (fun z => by rw [z, e2] at e; cases e; exact st) e) (bt _ _ (Ne.symm n2) a7)
    refine ⟨_, rfl, ?_⟩
    dsimp only [tCons, L2.tC, tNil, List.append_nil]
    refine (k7 H9 kp9).kr fun HA sA => ⟨_, rfl, ?_⟩
    have kpA : ∀ b o, b ≠ p → H1 b = some o → HA b = some o := fun b o np e => sA _ _ (kp9 b o np e)
    have gA := g9.trans (Go.of g9.pn sA)
    cases er : kindRight n q.fsO b f hh k' r with
    | false =>
      refine ⟨_, rfl, _, rfl, ?_⟩
      dsimp only [tCons, L2.tC, tNil, List.append_nil]
      exact told HA _ _ kpA (sA _ _ eh9) gA fun H'' g _ _ => k H'' g
    | true =>
    obtain ⟨its, eo⟩ : ∃ its, q.fsO = some its := by
      cases eo : q.fsO with
      | some its => exact ⟨its, rfl⟩
      | none =>
        rw [eo] at er
        simp [kindRight, fieldsOk] at er
    obtain ⟨rfl, lh, us2, its2, yn, yb, yf, yh, yk, yr, n2, b2, f2, h2, k2, r2, eg9, el9, pr9, pre, wn, wb, wf, wh, wk, wr⟩ := sq9 its eo
    refine iteF ?_
    have lits : its2.length ≤ 1000 := by
      have e1 := pr9.length
      rcases pre with rfl | rfl
      · omega
      · rw [List.length_dropLast] at e1
        omega
    have kg9 : K7 K CF H9 lg yn (.ref lh) yb yf yh yk yr n2 b2 f2 h2 k2 r2 (some its2) := ⟨SqL.of eg9, ⟨lh, us2, rfl, .inl (SqL.of el9), pr9, lits⟩, wn, wb, wf, wh, wk, wr⟩
    refine ⟨_, rfl, ?_⟩
    dsimp only [tCons, L2.tC, tNil, List.append_nil]
    refine (kg9.same sA).kr fun HB sB => ⟨_, rfl, ?_⟩
    have sAB := sA.trans sB
    have kpB : ∀ b o, b ≠ p → H1 b = some o → HB b = some o := fun b o np e => sB _ _ (kpA b o np e)
    have gB := gA.trans (Go.of gA.pn sB)
    cases er2 : kindRight n2 (some its2) b2 f2 h2 k2 r2 with
    | false =>
      refine ⟨_, rfl, _, rfl, ?_⟩
      dsimp only [tCons, L2.tC, tNil, List.append_nil]
      exact told HB _ _ kpB (sAB _ _ eh9) gB fun H'' g _ _ => k H'' g
    | true =>
    refine iteF ?_
    have six1 := six_of er (later H1 fun _ _ _ e => e).1.here (later H1 fun _ _ _ e => e).2.2.1.here (later H1 fun _ _ _ e => e).2.2.2.1.here (later H1 fun _ _ _ e => e).2.2.2.2.1.here (later H1 fun _ _ _ e => e).2.2.2.2.2.1.here (later H1 fun _ _ _ e => e).2.2.2.2.2.2.1.here
    have six2 := six_of er2 wn wb wf wh wk wr
    refine ⟨fun σ H' => σ = [some (.ref p), some (.ref qn), some (.ref qp), some (.ref l), some (.ref lg), some (.ref hd), some w, some (.bl (decide ((PyData.list [n, b, f, hh, k', r]).shown = (PyData.list [n2, b2, f2, h2, k2, r2]).shown) && decide (hs.length = us2.length))), none, none] ∧ Same H9 H', ?_, ?_⟩
    · refine head_tail (i := 3) rfl (later HB kpB).2.2.2.2.2.2.2 fun HC l1 sC _ e1 => ?_
      refine head_tail (i := 4) rfl (sC _ _ (sAB _ _ eg9)) fun HD l2 sD _ e2 => ?_
      dsimp only [tNil, List.append_nil]
      refine ⟨.ref l1, .ref l2, .list [n, b, f, hh, k', r], .list [n2, b2, f2, h2, k2, r2], rfl, .q (.dat (.lst (SqL.of (sD _ _ e1)) (six1.dp _)) six1.sh), .q (.dat (.lst (SqL.of e2) (six2.dp _)) six2.sh), six1.sz, six2.sz, ?_⟩
      have sBD := sC.trans sD
      have s9D := sAB.trans sBD
      refine ⟨_, rfl, ?_⟩
      cases e : decide ((PyData.list [n, b, f, hh, k', r]).shown = (PyData.list [n2, b2, f2, h2, k2, r2]).shown) with
      | false => exact ⟨rfl, s9D⟩
      | true =>
        refine ⟨_, rfl, hd, _, rfl, .inl (SqL.of (s9D _ _ eh9)), _, rfl, lg, _, _, _, rfl, rfl, SqL.of (s9D _ _ eg9), atI_nat (j := 1) rfl, lh, _, rfl, .inl (SqL.of (s9D _ _ el9)), rfl, ?_⟩
        refine ⟨?_, s9D⟩
        have e3 : decide (V.int (hs.length : Int) = V.int (us2.length : Int)) = decide (hs.length = us2.length) := by
          by_cases z : hs.length = us2.length
          · rw [decide_eq_true z, decide_eq_true (by rw [z])]
          · rw [decide_eq_false z, decide_eq_false (fun y => z (by injection y with y; omega))]
        rw [e3, Bool.true_and]
        rfl
    rintro σ HD ⟨rfl, s9D⟩
    have kpD : ∀ b o, b ≠ p → H1 b = some o → HD b = some o := fun b o np e => s9D _ _ (kp9 b o np e)
    have gD := g9.trans (Go.of g9.pn s9D)
    have er1 := er
    rw [eo] at er1
    have fu1 := FsS.weak (later2 HD its eo kpD)
    obtain ⟨a0, a1, a2, a3, a4, a5, a6, a7⟩ := later HD kpD
    refine ⟨_, rfl, ?_⟩
    dsimp only [tCons, L2.tC, tNil, List.append_nil]
    refine ⟨l, un, ufs, ub, uf, uh, uk, ur, n, b, f, hh, k', r, some its, hs, rfl, SqL.of a7, a0.here.q, fu1, a2.here.q, a3.here.q, a4.here.q, a5.here.q, a6.here.q, a0.here.a, a2.here.a, a5.here.a, fun _ HE x dx tf sE nx ex sT => ⟨_, rfl, ?_⟩, fun z => by rw [er1] at z; cases z⟩
    dsimp only [tCons, L2.tC, tNil, List.append_nil]
    have s9E := s9D.trans sE
    have fu2 : FsU K CF HE (.ref lh) us2 (some its2) := ⟨lh, rfl, .inl (SqL.of (s9E _ _ el9)), L2.Paired.mapP pr9 fun _ _ z => z.same s9E, lits⟩
    refine ⟨lg, yn, .ref lh, yb, yf, yh, yk, yr, n2, b2, f2, h2, k2, r2, some its2, us2, rfl, SqL.of (s9E _ _ eg9), wn.q.same s9E, fu2, wb.q.same s9E, wf.q.same s9E, wh.q.same s9E, wk.q.same s9E, wr.q.same s9E, wn.a, wb.a, wk.a, fun _ HF y dy tg sF ny ey sT' => ⟨_, rfl, _, rfl, ?_⟩, fun z => by rw [er2] at z; cases z⟩
    dsimp only [tCons, L2.tC, tNil, List.append_nil]
    have s9F := s9E.trans sF
    have sDF := sE.trans sF
    have kpF : ∀ b o, b ≠ p → H1 b = some o → HF b = some o := fun b o np e => s9F _ _ (kp9 b o np e)
    have gF := gD.trans (Go.of gD.pn sDF)
    -- the two kinds
    have af1 : its.all isF = true := by
      simp only [kindRight, fieldsOk, areFields, Bool.and_eq_true] at er1
      exact er1.1.2.1.2
    have af2 : its2.all isF = true := by
      simp only [kindRight, fieldsOk, areFields, Bool.and_eq_true] at er2
      exact er2.1.2.1.2
    obtain ⟨_, _, _, pr1, _⟩ := later2 HD its eo kpD
    obtain ⟨xs, exs⟩ := refs_of pr1 af1
    obtain ⟨ys, eys⟩ := refs_of pr9 af2
    obtain ⟨v1, c1', i1, i2, i3, i4, i5, i6, i7, i8, i9, i10, i11, i12⟩ := kv_of er1 a0.here a2.here a3.here a4.here a5.here a6.here xs.length
    obtain ⟨v2, c2', j1, j2, j3, j4, j5, j6, j7, j8, j9, j10, j11, j12⟩ := kv_of er2 wn wb wf wh wk wr ys.length
    have kx : KindAt K CK HE x v1 xs := ⟨⟨dx, tf, by rw [ex, i7, i8, i9, i10, i11, i12], by rw [← exs]; exact sT⟩, c1'.symm⟩
    have ky : KindAt K CK HF y v2 ys := ⟨⟨dy, tg, by rw [ey, j7, j8, j9, j10, j11, j12], by rw [← eys]; exact sT'⟩, c2'.symm⟩
    have kx := kx.same sF
    have same : decide (v1 = v2) = (decide ((PyData.list [n, b, f, hh, k', r]).shown = (PyData.list [n2, b2, f2, h2, k2, r2]).shown) && decide (hs.length = us2.length)) := by
      rw [Bool.eq_iff_iff, Bool.and_eq_true, decide_eq_true_iff, decide_eq_true_iff, decide_eq_true_iff, exs, eys, List.length_map, List.length_map]
      constructor
      · rintro rfl
        exact ⟨by rw [i1, i2, i3, i4, i5, i6, j1, j2, j3, j4, j5, j6], by omega⟩
      · rintro ⟨e1, e2⟩
        obtain ⟨z1, z2, z3, z4, z5, z6⟩ := six_inj six1 six2 e1
        rw [i1, j1] at z1
        rw [i2, j2] at z2
        rw [i3, j3] at z3
        rw [i4, j4] at z4
        rw [i5, j5] at z5
        rw [i6, j6] at z6
        injection z1 with z1
        injection z3 with z3
        injection z4 with z4
        injection z6 with z6
        have z2 := tD_inj z2
        have z5 := tD_inj z5
        have z7 : v1.c = v2.c := by omega
        cases v1
        cases v2
        simp only at z1 z2 z3 z4 z5 z6 z7
        rw [z1, z2, z3, z4, z5, z6, z7]
    have pre2 : ∀ (i : Nat) (h1 : i < xs.length) (h2 : i < ys.length), xs[i] = ys[i] := fun i h1 h2 => by
      rw [exs, eys] at pre
      have e : (ys.map V.ref)[i]? = (xs.map V.ref)[i]? := by
        rcases pre with e | e
        · rw [e]
        · have h3 : i < (ys.map V.ref).length := by rw [List.length_map]; exact h2
          rw [e, List.length_dropLast] at h3
          rw [e, List.getElem?_dropLast, if_pos h3]
      rw [List.getElem?_map, List.getElem?_map, List.getElem?_eq_getElem h1, List.getElem?_eq_getElem h2] at e
      simp only [Option.map_some, Option.some.injEq, V.ref.injEq] at e
      exact e.symm
    refine told HF _ _ kpF (s9F _ _ eh9) gF fun HG gG st eG => ⟨_, rfl, iteF ?_⟩
    have kx := kx.still st
    have ky := ky.still st
    obtain ⟨⟨dx1, tx1, ex1, _⟩, _⟩ := id kx
    obtain ⟨⟨dy1, ty1, ey1, _⟩, _⟩ := id ky
    generalize (decide ((PyData.list [n, b, f, hh, k', r]).shown = (PyData.list [n2, b2, f2, h2, k2, r2]).shown) && decide (hs.length = us2.length)) = al at same ⊢
    have fin1 : decide (V.bl (decide (v1 = v2)) = V.bl al) = true := decide_eq_true (by rw [same])
    have fin3 : decide (V.bl (if true = true then !decide (v1 = v2) else decide (v1 = v2)) = V.bl al) = false := by
      rw [same]
      cases al <;> rfl
    refine ⟨_, rfl, _, rfl, x, _, _, rfl, ex1, .ins y CK _ _ ey1 EQ.n1, ⟨x, _, v1, xs, rfl, kx, .inl ⟨y, v2, ys, rfl, ky, pre2, _, rfl, _, rfl, rfl, _, rfl, ?_⟩⟩⟩
    refine iteC fin1 ?_
    refine ⟨_, rfl, _, rfl, x, _, _, rfl, ex1, .ins y CK _ _ ey1 EQ.n1, ⟨x, _, v1, xs, rfl, kx, .inl ⟨y, v2, ys, rfl, ky, pre2, _, rfl, _, rfl, rfl, _, rfl, ?_⟩⟩⟩
    refine iteC (by rw [fin3]; rfl) ?_
    subst i7
    refine ⟨_, rfl, _, rfl, l, _, _, _, rfl, rfl, SqL.of eG, atI_nat (j := 0) rfl, x, _, _, rfl, ex1, .str v1.n EQ.n2, ⟨x, _, v1, xs, rfl, kx, .inr ⟨v1.n, rfl, _, rfl, ?_⟩⟩⟩
    exact k HG gG
end
end Wp
set_option Elab.async false
set_option linter.all false
set_option maxRecDepth 100000
set_option maxHeartbeats 4000000
namespace Wp
open PySem PySem.Spec PyProof.Rows L2
/-! ## the law -/
abbrev lLaw : Stmt := top 60
abbrev nLaw : List Str := ["_law_script", "_law_pen_here", "_law_names", "_law_pool", "_law_turn", "_law_plain"]
def spLaw (K : PySem.W.Frag) : Sp := fun vs H Q _ => ∃ (s : Addr) (ns : List Int), vs = [.ref s] ∧ SqL K H s (ns.map V.int) ∧ ns.length ≤ 63 ∧ ∀ H', Q (.bl true) H'
/-- how a kind is made of a name and its fields: the others stand as the class has them -/
structure MkK2 (K : PySem.W.Frag) (fdI : FuncData) : Prop where
  kb : ∃ g : List Value → List Value → List Value, KBn K fdI psK 3 [] g (fun vs _ => vs ++ [.non, .bl false, .bl false, .non, .bl false])
theorem passAtN {P : Program} {w : World} {X : Cx} {σ : L2.St} : PassesAt (L2N.CX P w) X σ E0 := fun _ _ _ _ _ _ ⟨_, _, _, _, _, _, _, _, _, _, _, _, h⟩ => h.elim
section
variable {P : Program} {w : World} {K : PySem.W.Frag} {mg : Str → Option Value} {base : Heap}
theorem scLaw : FnScope nLaw ["_law_script"] (defScope lLaw) := ⟨rfl, rfl, rfl, by decide +kernel, rfl, by decide +kernel, by decide +kernel⟩
theorem ok_law {f f1 f2 f3 f4 f5 f6 CF CK CB fI : Addr} {fd fd1 fd2 fd3 fd4 fd5 fd6 fdI : FuncData} (F : Fun K "law" "law" lLaw f fd) (B : Bn mg) (PE : Known P w K mg base CX0 1 "_law_pen" ["_law_script"] (spPen K) f1 fd1)
    (NS : Known P w K mg base CX0 4 "_law_kind_names" ["_law_pen_here", "_law_count"] spKns f2 fd2) (WS : Known P w K mg base CX0 3 "_law_words" ["_law_pen_here", "_law_count", "_law_most"] (spWds K) f3 fd3)
    (FA : KnownQ P w K mg base 7 "_law_fields_asked" ["_law_pen_here", "_law_names", "_law_pool"] (spFA K) f4 fd4) (KA : KnownQ P w K mg base 9 "_law_kinds_asked" ["_law_pen_here", "_law_names", "_law_pool"] (spKA K) f5 fd5)
    (SM : KnownQ P w K mg base 1 "_law_same" ["_law_one", "_law_other"] (spSameQ K) f6 fd6) (M : MkKd P w K mg base CF CK CB fI fdI) (M2 : MkK2 K fdI) (C : PlainC K CK ["name", "fields", "base", "frozen", "heirs", "key", "registered"]) :
    GOk P w K mg base CX0 10 f fd ["_law_script"] (spLaw K) := by
  refine gok_of F scLaw (fun vs H Q E h => ?_) (fun cdv A outer s H vs Q E hG hr h => ?_)
  · obtain ⟨a, ns, rfl, _⟩ := h
    rfl
  · obtain ⟨a, ns, rfl, sq, few, k⟩ := h
    obtain ⟨g2, kb2⟩ := M2.kb
    refine ⟨_, 
      (pss_cons (ps_set (i := 1) scLaw.nd rfl (.inl rfl) (pe_call PE.ok (hr.mono (by decide)) rfl PE.mg PE.kp PE.bi .nil pass0 (pa_cons (pv 0) pa_nil)))
      (pss_cons (ps_set (i := 2) scLaw.nd rfl (.inl rfl) (pe_call NS.ok (hr.mono (by decide)) rfl NS.mg NS.kp NS.bi .nil pass0 (pa_cons (pv 1) (pa_cons pe_int pa_nil))))
      (pss_cons (ps_set (i := 3) scLaw.nd rfl (.inl rfl) (pe_call WS.ok (hr.mono (by decide)) rfl WS.mg WS.kp WS.bi .nil pass0 (pa_cons (pv 1) (pa_cons pe_int (pa_cons pe_int pa_nil)))))
      (pss_cons (ps_for PassesOwn.leaving rfl (pi_range1 rfl B.range (pa_cons pe_int pa_nil)) (pg_name (i := 4) scLaw.nd rfl (Or.inl rfl)) 
        (pss_one (ps_if (PW.pt (pw_or (pt_not (pt_val (pe_callG hG FA.ok (hr.mono (by decide)) rfl FA.mg FA.kp FA.bi pass0 (pa_cons (pv 1) (pa_cons (pv 2) (pa_cons (pv 3) pa_nil)))))) (pw_or1 (pt_not (pt_val (pe_callG hG KA.ok (hr.mono (by decide)) rfl KA.mg KA.kp KA.bi pass0 (pa_cons (pv 1) (pa_cons (pv 2) (pa_cons (pv 3) pa_nil))))))))) 
          (pss_one (ps_ret pe_bl)) pss_nil)))
      (pss_cons (ps_set (i := 5) scLaw.nd rfl (.inl rfl) (pe_mkS M.made M.ok (hr.mono (by decide)) rfl M.gl kb2 (E := fun _ => E0) (fun σ => passAtN) (pa_cons (pe_ix ix_list (pv 2) pe_int (fun _ _ => rfl)) (pa_cons (pe_lst pa_nil) pa_nil))))
      (pss_one (ps_ret (pe_callG hG SM.ok (hr.mono (by decide)) rfl SM.mg SM.kp SM.bi pass0 (pa_cons (pe_lst (pa_cons (pe_fld (pv 5) rfl) (pa_cons (pe_fld (pv 5) rfl) (pa_cons (pe_fld (pv 5) rfl) (pa_cons (pe_fld (pv 5) rfl) (pa_cons (pe_fld (pv 5) rfl) pa_nil)))))) (pa_cons (pe_lst (pa_cons pe_non (pa_cons pe_bl (pa_cons pe_bl (pa_cons pe_non (pa_cons pe_bl pa_nil)))))) pa_nil)))))))))), ?_⟩
    refine ⟨_, rfl, ?_⟩
    dsimp only [tCons, L2.tC, tNil, List.append_nil]
    refine ⟨a, ns, rfl, sq, few, fun p c H1 m s1 _ _ pa => ?_⟩
    have pn : Pn p c ns H1 := ⟨_, _, _, _, _, pa⟩
    refine ⟨_, rfl, ?_⟩
    dsimp only [tCons, L2.tC, tNil, List.append_nil]
    refine ⟨p, c, ns, 3, rfl, pn, by decide, fun qn ks H2 lk ik g2 ek => ⟨_, rfl, ?_⟩⟩
    dsimp only [tCons, L2.tC, tNil, List.append_nil]
    refine ⟨p, c, ns, 12, rfl, g2.pn, by decide, fun qp ws H3 lw iw g3 ew => ?_⟩
    have nm : Names K H2 qn ks := ⟨ek, ik⟩
    have nm3 := nm.go g2.pn g3
    have po3 : Pool K H3 qp ws := ⟨ew, iw⟩
    refine ⟨4, rfl, by decide, by decide, ?_⟩
    refine for_it walk_range (fun i σ H' => Go p c ns H3 H' ∧ ∃ w4, σ = [some (.ref a), some (.ref p), some (.ref qn), some (.ref qp), w4, none]) ⟨Go.refl g3.pn, none, rfl⟩ (fun _ _ _ _ _ => trivial) ?_ ?_
    · rintro i y σ H4 H4' hi ⟨g4, w4, rfl⟩ ⟨rfl, rfl⟩
      refine ⟨_, rfl, _, rfl, _, rfl, ?_⟩
      dsimp only [tCons, L2.tC, tNil, List.append_nil]
      refine ⟨p, c, ns, qn, qp, ks, ws, rfl, g4.pn, nm3.go g3.pn g4, lk, po3.go g3.pn g4, lw, fun H5 g5 => ⟨_, rfl, ?_⟩⟩
      have g5 := g4.trans g5
      refine ⟨_, rfl, _, rfl, _, rfl, ?_⟩
      dsimp only [tCons, L2.tC, tNil, List.append_nil]
      refine ⟨p, c, ns, qn, qp, ks, ws, rfl, g5.pn, nm3.go g3.pn g5, lk, po3.go g3.pn g5, lw, fun H6 g6 => ⟨_, rfl, ?_⟩⟩
      exact iteF ⟨g5.trans g6, _, rfl⟩
    · rintro σ H4 ⟨g4, w4, rfl⟩
      have nm4 := nm3.go g3.pn g4
      obtain ⟨k0, r0, rfl⟩ : ∃ k0 r0, ks = k0 :: r0 := by
        cases ks with
        | nil => cases lk
        | cons k0 r0 => exact ⟨k0, r0, rfl⟩
      have ok0 := ik k0 (List.mem_cons_self ..)
      refine ⟨_, rfl, qn, _, _, _, rfl, rfl, SqL.of nm4.eq, atI_nat (j := 0) rfl, by show 0 ≤ sizeLine; decide, fun l nl => ⟨rfl, fun x dx hx hdx nx => ?_⟩⟩
      have s5 := same_new (o := HO.lst []) nl
      have e5 : upd H4 l (.lst []) l = some (.lst []) := upd_same
      generalize upd H4 l (.lst []) = H5 at s5 e5 hx hdx ⊢
      have s6 := made2 (CF := CK) hx hdx
      have right : kindRight (.str k0) (some []) .none (.bool false) (.bool false) .none (.bool false) = true := by
        simp [kindRight, namedOk, basedOk, canBe, ok0.ok, isNon, fieldsOk, areFields, isBool, tru]
      have v0 : Vd K (upd (upd H5 dx (.own x)) x (.ins CK dx [])) (.str k0) (.str k0) := ok0.vd
      refine ⟨x, dx, .str k0, .ref l, .non, .bl false, .bl false, .non, .bl false, .str k0, .none, .bool false, .bool false, .none, .bool false, some [], [], rfl, upd_same, v0.q, ⟨l, rfl, .inl (SqL.of (s6 _ _ e5)), .nil, by decide⟩, vd_none.q, (vd_bool _).q, (vd_bool _).q, vd_none.q, (vd_bool _).q, v0.a, trivial, trivial, fun _ H7 tf b7 e7 sT => ⟨rfl, ?_⟩, fun z => by rw [right] at z; cases z⟩
      have lk := lk_ks (.str k0) (.ref tf) .non (.bl false) (.bl false) .non (.bl false)
      refine ⟨_, rfl, x, CK, dx, _, _, rfl, e7, C.cl, C.no _ (by simp), lk.2.2.1, _, rfl, x, CK, dx, _, _, rfl, e7, C.cl, C.no _ (by simp), lk.2.2.2.1, _, rfl, x, CK, dx, _, _, rfl, e7, C.cl, C.no _ (by simp), lk.2.2.2.2.1,
        _, rfl, x, CK, dx, _, _, rfl, e7, C.cl, C.no _ (by simp), lk.2.2.2.2.2.1, _, rfl, x, CK, dx, _, _, rfl, e7, C.cl, C.no _ (by simp), lk.2.2.2.2.2.2, by show 5 ≤ sizeLine; decide, fun t nt => ?_⟩
      have s8 := same_new (o := HO.lst [V.non, .bl false, .bl false, .non, .bl false]) nt
      have e8 : upd H7 t (.lst [V.non, .bl false, .bl false, .non, .bl false]) t = some (.lst [V.non, .bl false, .bl false, .non, .bl false]) := upd_same
      generalize upd H7 t (.lst [V.non, .bl false, .bl false, .non, .bl false]) = H8 at s8 e8 ⊢
      refine ⟨by show 5 ≤ sizeLine; decide, fun t2 nt2 => ?_⟩
      have s9 := same_new (o := HO.lst [V.non, .bl false, .bl false, .non, .bl false]) nt2
      have e9 : upd H8 t2 (.lst [V.non, .bl false, .bl false, .non, .bl false]) t2 = some (.lst [V.non, .bl false, .bl false, .non, .bl false]) := upd_same
      generalize upd H8 t2 (.lst [V.non, .bl false, .bl false, .non, .bl false]) = H9 at s9 e9 ⊢
      dsimp only [tNil, List.append_nil]
      have dp : DpAll K H9 [V.non, .bl false, .bl false, .non, .bl false] [.none, .bool false, .bool false, .none, .bool false] := .cons .non (.cons (.bl _) (.cons (.bl _) (.cons .non (.cons (.bl _) .nil))))
      have sh : SeqAt.shaped (.list [.none, .bool false, .bool false, .none, .bool false]) = true := by decide +kernel
      have sz : Sz (.list [.none, .bool false, .bool false, .none, .bool false]) := sz_list (fun x hx => by
        simp only [List.mem_cons, List.not_mem_nil, or_false] at hx
        rcases hx with rfl | rfl | rfl | rfl | rfl
        · exact sl_none
        · exact sl_bool _
        · exact sl_bool _
        · exact sl_none
        · exact sl_bool _) (by show 5 ≤ 8; decide)
      refine ⟨.ref t, .ref t2, _, _, rfl, .q (.dat (.lst (SqL.of (s9 _ _ e8)) dp) sh), .q (.dat (.lst (SqL.of e9) dp) sh), sz, sz, ?_⟩
      rw [decide_eq_true (p := (PyData.list [.none, .bool false, .bool false, .none, .bool false]).shown = (PyData.list [.none, .bool false, .bool false, .none, .bool false]).shown) rfl]
      exact k H9
end
end Wp
set_option Elab.async false
set_option linter.all false
set_option maxRecDepth 100000
set_option maxHeartbeats 4000000
namespace Hb
open PySem PySem.Spec PyProof.Rows L2
/-! ## facts of the written part as Bools -/
variable {K : PySem.W.Frag} {C : Addr}
def oexB (K : PySem.W.Frag) (C : Addr) : Bool := (match K.lookup C with
  | some ⟨.type t, _, .cls cd, sl⟩ => decide (t = "type") && (decide (sl.size = 6) && (decide (sl.toList[4]? = some (some (.builtin "ValueError.__new__"))) && (cd.hasDict && (!cd.hasDel && (match cd.mro with
    | .ref c :: bm => decide (c = C) && PySem.HandSPX.refsVE bm
    | _ => false)))))
  | _ => false) && (He.eqO (PySem.W.findIn K (.ref C) "__setattr__") (some (some (.builtin "object.__setattr__"))) && (decide (PySem.W.subIn K (.ref C) (.type "BaseException") = some true) && (decide (PySem.W.typeIn K (.ref C) = some (.type "type")) && PySem.W.keepIn K (.ref C))))
theorem arr6 {α : Type} {a : Array α} (h : a.size = 6) : ∃ x0 x1 x2 x3 x4 x5, a = #[x0, x1, x2, x3, x4, x5] := by
  obtain ⟨l⟩ := a
  match l, h with
  | [x0, x1, x2, x3, x4, x5], _ => exact ⟨x0, x1, x2, x3, x4, x5, rfl⟩
theorem oexB_ok (h : oexB K C = true) : OexC K C := by
  obtain ⟨h1, h⟩ := He.ba h
  obtain ⟨h2, h⟩ := He.ba h
  obtain ⟨h3, h⟩ := He.ba h
  obtain ⟨h4, h5⟩ := He.ba h
  refine ⟨?_, He.eqO_ok h2, of_decide_eq_true h3, of_decide_eq_true h4, h5⟩
  cases q : K.lookup C with
  | none =>
    rw [q] at h1
    cases h1
  | some o =>
    obtain ⟨oc, od, dt, sl⟩ := o
    rw [q] at h1
    cases oc with
    | type t =>
      cases dt with
      | cls cd =>
        obtain ⟨a1, z0⟩ := He.ba (show (decide (t = "type") && (decide (sl.size = 6) && (decide (sl.toList[4]? = some (some (.builtin "ValueError.__new__"))) && (cd.hasDict && (!cd.hasDel && (match cd.mro with
          | .ref c :: bm => decide (c = C) && PySem.HandSPX.refsVE bm
          | _ => false)))))) = true from h1)
        obtain ⟨a2, z2⟩ := He.ba z0
        obtain ⟨a3, z3⟩ := He.ba z2
        obtain ⟨a4, z4⟩ := He.ba z3
        obtain ⟨a5, z1⟩ := He.ba z4
        clear h1 z0 z2 z3 z4
        have a1 := of_decide_eq_true a1
        subst a1
        obtain ⟨x0, x1, x2, x3, x4, x5, rfl⟩ := arr6 (of_decide_eq_true a2)
        have a3 := of_decide_eq_true a3
        have a3 : x4 = some (.builtin "ValueError.__new__") := by simpa using a3
        subst a3
        obtain ⟨n1, n2, n3, n4, n5, n6, n7, n8, n9, n10, n11⟩ := cd
        simp only at a4 a5 z1
        have a5 : n11 = false := by simpa using a5
        subst a4 a5
        cases n3 with
        | nil => cases z1
        | cons m bm =>
          cases m with
          | ref c =>
            obtain ⟨b1, b2⟩ := He.ba z1
            have b3 : c = C := of_decide_eq_true b1
            exact ⟨n1, n5, n4, n2, bm, n7, n8, n9, n10, od, x0, x1, x2, x3, x5, by rw [b3], b2⟩
          | _ => cases z1
      | _ => cases h1
    | _ => cases h1
def excB (K : PySem.W.Frag) (C : Addr) : Bool := He.eqO (PySem.W.findIn K (.ref C) "__getattribute__") (some (some (.builtin "BaseException.__getattribute__"))) && (He.eqO (PySem.W.findIn K (.ref C) "__getattr__") (some none) &&
  (decide (PySem.W.subIn K (.ref C) (.type "BaseException") = some true) && (PySem.W.hasDictIn K C && (He.eqO (PySem.W.findIn K (.ref C) "__class__") (some (some (.builtin "object.__class__"))) &&
  (He.eqO (PySem.W.specialIn K (.builtin "object.__class__") "__get__") (some (some (.builtin "getset_descriptor.__get__"))) && (decide (PySem.W.takesIn K (.builtin "object.__class__") = some true) && decide (PySem.W.mroIn K C (.type "object") = some true)))))))
theorem excB_ok (h : excB K C = true) : ExcC K C := by
  obtain ⟨h1, h⟩ := He.ba h
  obtain ⟨h2, h⟩ := He.ba h
  obtain ⟨h3, h⟩ := He.ba h
  obtain ⟨h4, h⟩ := He.ba h
  obtain ⟨h5, h⟩ := He.ba h
  obtain ⟨h6, h⟩ := He.ba h
  obtain ⟨h7, h8⟩ := He.ba h
  exact ⟨He.eqO_ok h1, He.eqO_ok h2, of_decide_eq_true h3, h4, He.eqO_ok h5, He.eqO_ok h6, of_decide_eq_true h7, of_decide_eq_true h8⟩
/-- an own class beside data -/
def ownB (K : PySem.W.Frag) (C : Addr) : Bool := He.eqO (PySem.W.findIn K (.ref C) "__class__") (some (some (.builtin "object.__class__"))) && (He.eqO (PySem.W.specialIn K (.builtin "object.__class__") "__get__") (some (some (.builtin "getset_descriptor.__get__"))) &&
  (decide (PySem.W.takesIn K (.builtin "object.__class__") = some true) && (decide (PySem.W.mroIn K C (.type "object") = some true) && (decide (PySem.W.kitOne K (.ref C) (.ref C) = some true) &&
  (["NoneType", "bool", "int", "str", "list", "tuple", "dict"].all fun t => decide (PySem.W.kitOne K (.type t) (.ref C) = some false))))))
theorem ownB_ok (cl : Cls K C) (h : ownB K C = true) : Wp.OwnC K C := by
  obtain ⟨h1, h⟩ := He.ba h
  obtain ⟨h2, h⟩ := He.ba h
  obtain ⟨h3, h⟩ := He.ba h
  obtain ⟨h4, h⟩ := He.ba h
  obtain ⟨h5, h6⟩ := He.ba h
  refine ⟨cl, He.eqO_ok h1, He.eqO_ok h2, of_decide_eq_true h3, of_decide_eq_true h4, of_decide_eq_true h5, fun d => ?_⟩
  have q := List.all_eq_true.mp h6
  cases d <;> exact of_decide_eq_true (q _ (by simp [Wp.tyN]))
def eqB (K : PySem.W.Frag) (C : Addr) : Bool := decide (PySem.W.mroIn K C (.type "object") = some true) && (He.eqO (PySem.W.findIn K (.ref C) "__ne__") (some (some (.builtin "object.__ne__"))) && (He.eqO (PySem.W.findIn K (.ref C) "__eq__") (some (some (.ref (He.ma K C "__eq__")))) && PySem.W.isFn K (.ref (He.ma K C "__eq__"))))
theorem eqB_ok (h : eqB K C = true) : Wp.OwnEqual K C (He.ma K C "__eq__") := by
  obtain ⟨h1, h⟩ := He.ba h
  obtain ⟨h2, h⟩ := He.ba h
  obtain ⟨h3, h4⟩ := He.ba h
  exact ⟨of_decide_eq_true h1, He.eqO_ok h2, He.eqO_ok h3, h4⟩
/-- a tuple of the written part -/
def tupB (K : PySem.W.Frag) (t : Addr) (vs : List V) : Bool := match K.lookup t with
  | some ⟨.type c, _, .seq its _, _⟩ => decide (c = "tuple") && (He.relAll vs its.toList && decide (its.size ≤ 1000))
  | _ => false
theorem tupB_ok {t : Addr} {vs : List V} (h : tupB K t vs = true) (H : Hp) : SqT K H t vs := by
  unfold tupB at h
  cases q : K.lookup t with
  | none =>
    rw [q] at h
    cases h
  | some o =>
    obtain ⟨oc, od, dt, sl⟩ := o
    rw [q] at h
    cases oc with
    | type c =>
      cases dt with
      | seq its n =>
        obtain ⟨h1, h⟩ := He.ba (show (decide (c = "tuple") && (He.relAll vs its.toList && decide (its.size ≤ 1000))) = true from h)
        obtain ⟨h2, h3⟩ := He.ba h
        have h1 := of_decide_eq_true h1
        have h3 := of_decide_eq_true h3
        subst h1
        exact .inr ⟨_, its, n, q, rfl, rfl, by rw [sizeLine_eq]; omega, He.relAll_ok h2⟩
      | _ => cases h
    | _ => cases h
/-- a keyword-only default of the def at f, if it is an object -/
def kwdAt (f : Str × Option Str) (x : Str) (K : PySem.W.Frag) : Addr := match K.lookup (He.fAd K f) with
  | some ⟨_, _, .func fd, _⟩ => (match fd.kwdefaults with
    | .ref D => (match PySem.W.nsIn K D x with
      | some (some (.ref a)) => a
      | _ => 0)
    | _ => 0)
  | _ => 0
/-- a constant of a class, read off the class -/
def conB (K : PySem.W.Frag) (C : Addr) (f : Str) (v : V) : Bool := PySem.W.readsIn K C (.type "type") && (He.eqO (PySem.W.specialIn K (.ref C) "__getattribute__") (some (some (.builtin "type.__getattribute__"))) && (match PySem.W.findCls K (.ref C) (.type "type") f with
  | some (.val u) => He.relB v u
  | _ => false))
theorem conB_ok {f : Str} {v : V} (h : conB K C f v = true) : ClX.CRead K C (.type "type") ∧ ∃ u, ClX.CVal K C (.type "type") f v u := by
  obtain ⟨h1, h⟩ := He.ba h
  obtain ⟨h2, h3⟩ := He.ba h
  refine ⟨⟨h1, He.eqO_ok h2⟩, ?_⟩
  split at h3
  · rename_i u e
    exact ⟨u, e, He.relB_ok h3⟩
  · cases h3
end Hb
namespace Wp
open PySem PySem.Spec PyProof.Rows L2
theorem FunD_kbN {K : PySem.W.Frag} {x qual : Str} {params : Arguments} {body : List Stmt} {scope : Scope} {kws : List (Str × V)} {f : Addr} {fd : FuncData} {ps : List Str} (F : FunD K x qual params body scope [] kws f fd) (n : Nat) (ks : List Str)
    (h : ∀ (kV doc pm : Value) (an : Option Addr) (cdv ct : Value) (us ws : List Value), us.length = n → ws.length = ks.length → bindArgs (PySem.W.fnOf x qual params body scope .none kV doc pm an cdv ct) ⟨us, ks.zip ws⟩ = pure (ps.zip (us ++ ws))) :
    KBn K fd ps n ks (fun us ws => us ++ ws) (fun vs zs => vs ++ zs) := by
  obtain ⟨oc, od, dV, kV, doc, pm, an, cdv, ct, osl, rfl, lk, hcd, hD, hK⟩ := F.ex
  rcases hD with ⟨_, rfl⟩ | ⟨e, _⟩
  · exact ⟨fun s us ws _ l1 l2 => .of_eq (h kV doc pm an cdv ct us ws l1 l2), fun a b => a.append b⟩
  · exact absurd rfl e
end Wp
set_option Elab.async false
set_option linter.all false
set_option maxRecDepth 100000
set_option maxHeartbeats 0
namespace Wp
open PySem PySem.Spec PyProof.Rows L2
/-! ## the head: facts by names -/

structure ShI (st : Stmt) (f : Str) : Prop where
  S : FnScope ["self", f] ["self", f] (defScope st)
  hs : (defScope st).names.lookup ("self" : Str) = some NameKind.local
  hl : (defScope st).names.lookup f = some NameKind.local
  hd : (f == ("__debug__" : Str)) = false
  hc : (f == ("__classdict__" : Str)) = false
def dd (x : Str) (i : Nat) : He.DefD := ⟨(x, none), x, x, defArgs (top i), defBody (top i), defScope (top i), [], []⟩
def dm (C x q : Str) (i j : Nat) (kw : List (Str × He.Dv)) : He.DefD := ⟨(C, some x), x, q, defArgs (meth i j), defBody (meth i j), defScope (meth i j), [], kw⟩
def fn : List He.DefD := [dd "is_integer" 12, dd "is_word" 13, dd "is_field_name" 14, dd "is_kind_name" 15, dd "is_default" 16, dd "are_different" 17, dd "_fits_mode" 22, dd "_is_was" 23, dm "Field" "__init__" "Field.__init__" 24 0 [("target", .non), ("default", .int 0), ("was", .adr (Hb.kwdAt ("Field", some "__init__") "was"))], dm "Field" "__eq__" "Field.__eq__" 24 1 [], dd "_are_fields" 25, dd "_can_be" 26, dm "Kind" "__init__" "Kind.__init__" 27 0 [("base", .non), ("frozen", .bl false), ("heirs", .bl false), ("key", .non), ("registered", .bl false)], dm "Kind" "__eq__" "Kind.__eq__" 27 1 [], dm "BadField" "__init__" "BadField.__init__" 3 0 [], dm "BadKind" "__init__" "BadKind.__init__" 4 0 [], dd "_law_pen" 34, dd "_law_take" 35, dd "_law_one_of" 36, dd "_law_is_integer" 37, dd "_law_word" 38, dd "_law_words" 39, dd "_law_kind_names" 40, dd "_law_odd" 41, dd "_law_same" 42, dd "_law_letters" 43, dd "_law_is_field_name" 44, dd "_law_is_kind_name" 45, dd "_law_elder" 46, dd "_law_field_parts" 47, dd "_law_elder_right" 48, dd "_law_field_right" 49, dd "_law_field_told" 50, dd "_law_field_due" 51, dd "_law_made_field" 52, dd "_law_fields_asked" 53, dd "_law_right_fields" 54, dd "_law_kind_parts" 55, dd "_law_kind_right" 56, dd "_law_kind_made" 57, dd "_law_kind_told" 58, dd "_law_kinds_asked" 59, dd "law" 60]
def fa : List He.Fa := [.glo "is_integer", .glo "is_word", .glo "is_field_name", .glo "is_kind_name", .glo "is_default", .glo "are_different", .glo "_fits_mode", .glo "_is_was", .glo "_are_fields", .glo "_can_be", .glo "_law_pen", .glo "_law_take", .glo "_law_one_of", .glo "_law_is_integer", .glo "_law_word", .glo "_law_words", .glo "_law_kind_names", .glo "_law_odd", .glo "_law_same", .glo "_law_letters", .glo "_law_is_field_name", .glo "_law_is_kind_name", .glo "_law_elder", .glo "_law_field_parts", .glo "_law_elder_right", .glo "_law_field_right", .glo "_law_field_told", .glo "_law_field_due", .glo "_law_made_field", .glo "_law_fields_asked", .glo "_law_right_fields", .glo "_law_kind_parts", .glo "_law_kind_right", .glo "_law_kind_made", .glo "_law_kind_told", .glo "_law_kinds_asked", .glo "law", .glo "Field", .glo "Kind", .glo "House", .glo "BadField", .glo "BadKind", .free "isinstance", .free "int", .free "bool", .free "str", .free "len", .free "list", .free "tuple", .free "all", .free "set", .free "repr", .free "range", .str "SMALL" smallS, .str "LARGE" largeS, .int "NAME_LETTERS" 8, .int "DEFAULT_BOUND" 1000000000000, .str "ANY" "any", .int "OLD_NAMES" 2, .cls "Field", .cls "Kind", .noat "Field" "name", .noat "Field" "mode", .noat "Field" "target", .noat "Field" "default", .noat "Field" "was", .noat "Kind" "name", .noat "Kind" "fields", .noat "Kind" "base", .noat "Kind" "frozen", .noat "Kind" "heirs", .noat "Kind" "key", .noat "Kind" "registered", .mkr "Field", .mkr "Kind", .noat "BadField" "name", .noat "BadKind" "name", .meth "BadField" "__init__", .meth "BadKind" "__init__", .exm "BadField" "BadField" true, .exm "BadKind" "BadKind" true, .glo "SLOT_MODES"]
def exs (K : PySem.W.Frag) : List Bool := [Hb.oexB K (He.ga K "BadField"), Hb.excB K (He.ga K "BadField"), Hb.oexB K (He.ga K "BadKind"), Hb.excB K (He.ga K "BadKind"), Hb.ownB K (He.ga K "Field"), Hb.ownB K (He.ga K "Kind"), Hb.eqB K (He.ga K "Field"), Hb.eqB K (He.ga K "Kind"), PySem.W.notFirst K (He.ga K "Field") (.ref (He.ga K "Field")), PySem.W.notFirst K (He.ga K "Field") (.type "tuple"), PySem.W.notFirst K (He.ga K "Kind") (.ref (He.ga K "Kind")), PySem.W.notFirst K (He.ga K "Kind") (.type "str"), Hb.tupB K (He.ga K "SLOT_MODES") [.str "link", .str "list"], Hb.tupB K (Hb.kwdAt ("Field", some "__init__") "was" K) [], Hb.conB K (He.ga K "House") "FIELDS" (.int 10)]
abbrev AlX : Type := Bool × He.AlD
def obsX (K : PySem.W.Frag) : AlX := ((exs K).all fun b => b, He.obsD fa fn K)
def valX : AlX := (true, He.valD fn)
def obsXG (n : Nat) (g : Addr → Option Obj) : AlX := obsX (He.frG g (He5.asA g n))
def hk : PySem.W.Hook where
  α := AlX
  obs := fun s => obsXG 6 s.heap.get?
  val := fun _ => valX
  says := fun _ h => ∃ K : PySem.W.Frag, K.In h ∧ obsX K = valX
  of := fun _ _ e => ⟨_, He.frG_in, e⟩
  keeps := fun _ _ _ ⟨K, hK, c⟩ k => ⟨K, PySem.W.Frag.In.keeps hK k, c⟩
abbrev R : PySem.W.OpenRow := PySem.W.OpenLaw.row PySem.Challenge.rw_waypairs_k01_fields_and_kinds_made
def ob (s : PySem.W.SharedT) : AlX := obsXG 6 (HandSHeadRun.getT s)
theorem ob_eq (s : PySem.W.SharedT) : ob s = hk.obs s.abs := by
  have e : HandSHeadRun.getT s = s.abs.heap.get? := funext (HandSHeadRun.getT_eq s)
  show obsXG 6 (HandSHeadRun.getT s) = obsXG 6 s.abs.heap.get?
  rw [e]
theorem run (w : World) : HandSHeadRun.RunEq R (PySem.W.view R.prog [60]) hk ob 6000 ((["is_integer", "is_word", "is_field_name", "is_kind_name", "is_default", "are_different", "_fits_mode", "_is_was", "_are_fields", "_can_be", "_law_pen", "_law_take", "_law_one_of", "_law_is_integer", "_law_word", "_law_words", "_law_kind_names", "_law_odd", "_law_same", "_law_letters", "_law_is_field_name", "_law_is_kind_name", "_law_elder", "_law_field_parts", "_law_elder_right"] : List PySem.Str) ++ (["_law_field_right", "_law_field_told", "_law_field_due", "_law_made_field", "_law_fields_asked", "_law_right_fields", "_law_kind_parts", "_law_kind_right", "_law_kind_made", "_law_kind_told", "_law_kinds_asked", "Field", "Kind", "House", "BadField", "BadKind", "WayError", "BadHouse", "UnknownKind", "_check_kinds", "_holds_alone", "_all_fields", "_far_from", "_wall", "SLOT_MODES"] : List PySem.Str) ++ (["SMALL", "LARGE", "NAME_LETTERS", "DEFAULT_BOUND", "ANY", "OLD_NAMES"] : List PySem.Str)) w := by
  intro os
  kernel_rfl
/-- a law: F gives the written part, the function object, the promise over every base -/
theorem walk_GE {l : PySem.W.OpenLaw} {n k : Nat} {q : Program} {loose : List Str} {XP : (Str → Option Value) → Heap → Prop} {YP : World → Heap → Prop} {d : DefRec} {CX : CXT} {x : Str}
    (hn : l.most = some n) (hn2 : n ≤ sizeLine) (hdf : d.params.defaults = []) (hr : Room k callerA)
    (F : ∀ (w : World) (mg : Str → Option Value) (fa : Addr) (h : Heap), YP w h → h.Ns mainGlobals mg → mg d.name = some (.ref fa) →
      ∃ (K : PySem.W.Frag) (fd : FuncData) (sp : Sp), K.In h ∧ (∀ (s : Shared) (u : Value), BindsTo s fd ⟨[u], []⟩ [(x, u)]) ∧
        (∀ (H : Hp) (a : Addr) (ns : List Int), ns.length ≤ n → Only H → SqL K H a (ns.map V.int) → sp [.ref a] H (fun v _ => v = .bl true) fun _ _ _ => False) ∧
        ∀ base : Heap, K.In base → base.Ns mainGlobals mg → GOk l.prog w K mg base CX k fa fd [x] sp)
    (hCX : ∀ (H : Hp) (s : Shared) (e : Value) (s' : Shared), CX [] H s (fun _ _ _ => False) e s' → False) :
    PySem.W.WalkO q loose XP YP l.row.toRowW d [] (fun f vs => PySem.call f vs) := by
  refine Att.attach_call hn hdf fun w s₀ s₁ mg mb fa o pm cd doc a vs ns G Y ho hd hcd hmg hobj hints hlen hg => ?_
  obtain ⟨K, fd, sp, KX, hb, hsp, hF⟩ := F w mg fa _ Y G.T.g hmg
  exact law_start KX G.T.g G.T.b G.T.builtins G.T.nolimit hg hobj hints (Nat.le_trans hlen hn2) hr hF hb (fun H hO hS => hsp H a ns hlen hO hS) fun H e s' => hCX H s₁ e s'

theorem facts {P : Program} {w : World} {K : PySem.W.Frag} {h : Heap} {mg : Str → Option Value} {f : Addr} (X : K.In h) (G : h.Ns mainGlobals mg) (hfa : mg ("law" : Str) = some (.ref f)) (cx : obsX K = valX) :
    ∃ fd : FuncData, (∀ (s : Shared) (v : Value), BindsTo s fd ⟨[v], []⟩ [("_law_script", v)]) ∧ ∀ base : Heap, K.In base → base.Ns mainGlobals mg → GOk P w K mg base CX0 10 f fd ["_law_script"] (spLaw K) := by
  have cb : ∀ b ∈ exs K, b = true := fun b hb => List.all_eq_true.mp (congrArg (fun z : AlX => z.1) cx) b hb
  have ex := fun (i : Nat) (b : Bool) (e : (exs K)[i]? = some b) => cb b (List.mem_of_getElem? e)
  have c : He.SaysD fa fn K := congrArg (fun z : AlX => z.2) cx
  have g := fun (i : Nat) (x : Str) (e : fa[i]? = some (.glo x)) => He.glo_ok (x := x) X G (c.fact i (f := .glo x) e)
  have fr := fun (i : Nat) (x : Str) (e : fa[i]? = some (.free x)) => He.free_ok (x := x) X G (c.fact i (f := .free x) e)
  obtain ⟨fd_isInt, F_isInt⟩ := c.def_ 0 (d := dd "is_integer" 12) rfl
  have b_isInt := FunD.bindsN (ps := ["value"]) F_isInt fun _ _ _ _ _ _ us hl => match us, hl with | [_], _ => rfl
  obtain ⟨fd_isWord, F_isWord⟩ := c.def_ 1 (d := dd "is_word" 13) rfl
  have b_isWord := FunD.bindsN (ps := ["value", "most"]) F_isWord fun _ _ _ _ _ _ us hl => match us, hl with | [_, _], _ => rfl
  obtain ⟨fd_isField, F_isField⟩ := c.def_ 2 (d := dd "is_field_name" 14) rfl
  have b_isField := FunD.bindsN (ps := ["value"]) F_isField fun _ _ _ _ _ _ us hl => match us, hl with | [_], _ => rfl
  obtain ⟨fd_isKind, F_isKind⟩ := c.def_ 3 (d := dd "is_kind_name" 15) rfl
  have b_isKind := FunD.bindsN (ps := ["value"]) F_isKind fun _ _ _ _ _ _ us hl => match us, hl with | [_], _ => rfl
  obtain ⟨fd_isDef, F_isDef⟩ := c.def_ 4 (d := dd "is_default" 16) rfl
  have b_isDef := FunD.bindsN (ps := ["value"]) F_isDef fun _ _ _ _ _ _ us hl => match us, hl with | [_], _ => rfl
  obtain ⟨fd_diff, F_diff⟩ := c.def_ 5 (d := dd "are_different" 17) rfl
  have b_diff := FunD.bindsN (ps := ["names"]) F_diff fun _ _ _ _ _ _ us hl => match us, hl with | [_], _ => rfl
  obtain ⟨fd_fits, F_fits⟩ := c.def_ 6 (d := dd "_fits_mode" 22) rfl
  have b_fits := FunD.bindsN (ps := ["mode", "target", "default"]) F_fits fun _ _ _ _ _ _ us hl => match us, hl with | [_, _, _], _ => rfl
  obtain ⟨fd_was, F_was⟩ := c.def_ 7 (d := dd "_is_was" 23) rfl
  have b_was := FunD.bindsN (ps := ["name", "was"]) F_was fun _ _ _ _ _ _ us hl => match us, hl with | [_, _], _ => rfl
  obtain ⟨fd_FI, F_FI⟩ := c.def_ 8 (d := dm "Field" "__init__" "Field.__init__" 24 0 [("target", .non), ("default", .int 0), ("was", .adr (Hb.kwdAt ("Field", some "__init__") "was"))]) rfl
  obtain ⟨fd_FE, F_FE⟩ := c.def_ 9 (d := dm "Field" "__eq__" "Field.__eq__" 24 1 []) rfl
  have b_FE := FunD.bindsN (ps := ["self", "other"]) F_FE fun _ _ _ _ _ _ us hl => match us, hl with | [_, _], _ => rfl
  obtain ⟨fd_AF, F_AF⟩ := c.def_ 10 (d := dd "_are_fields" 25) rfl
  have b_AF := FunD.bindsN (ps := ["fields"]) F_AF fun _ _ _ _ _ _ us hl => match us, hl with | [_], _ => rfl
  obtain ⟨fd_CB, F_CB⟩ := c.def_ 11 (d := dd "_can_be" 26) rfl
  have b_CB := FunD.bindsN (ps := ["base", "frozen", "heirs", "key", "registered"]) F_CB fun _ _ _ _ _ _ us hl => match us, hl with | [_, _, _, _, _], _ => rfl
  obtain ⟨fd_KI, F_KI⟩ := c.def_ 12 (d := dm "Kind" "__init__" "Kind.__init__" 27 0 [("base", .non), ("frozen", .bl false), ("heirs", .bl false), ("key", .non), ("registered", .bl false)]) rfl
  obtain ⟨fd_KE, F_KE⟩ := c.def_ 13 (d := dm "Kind" "__eq__" "Kind.__eq__" 27 1 []) rfl
  have b_KE := FunD.bindsN (ps := ["self", "other"]) F_KE fun _ _ _ _ _ _ us hl => match us, hl with | [_, _], _ => rfl
  obtain ⟨fd_BF, F_BF⟩ := c.def_ 14 (d := dm "BadField" "__init__" "BadField.__init__" 3 0 []) rfl
  have b_BF := FunD.bindsN (ps := ["self", "name"]) F_BF fun _ _ _ _ _ _ us hl => match us, hl with | [_, _], _ => rfl
  obtain ⟨fd_BK, F_BK⟩ := c.def_ 15 (d := dm "BadKind" "__init__" "BadKind.__init__" 4 0 []) rfl
  have b_BK := FunD.bindsN (ps := ["self", "name"]) F_BK fun _ _ _ _ _ _ us hl => match us, hl with | [_, _], _ => rfl
  obtain ⟨fd_pen, F_pen⟩ := c.def_ 16 (d := dd "_law_pen" 34) rfl
  have b_pen := FunD.bindsN (ps := ["_law_script"]) F_pen fun _ _ _ _ _ _ us hl => match us, hl with | [_], _ => rfl
  obtain ⟨fd_take, F_take⟩ := c.def_ 17 (d := dd "_law_take" 35) rfl
  have b_take := FunD.bindsN (ps := ["_law_pen_here", "_law_bound"]) F_take fun _ _ _ _ _ _ us hl => match us, hl with | [_, _], _ => rfl
  obtain ⟨fd_one, F_one⟩ := c.def_ 18 (d := dd "_law_one_of" 36) rfl
  have b_one := FunD.bindsN (ps := ["_law_pen_here", "_law_menu"]) F_one fun _ _ _ _ _ _ us hl => match us, hl with | [_, _], _ => rfl
  obtain ⟨fd_lInt, F_lInt⟩ := c.def_ 19 (d := dd "_law_is_integer" 37) rfl
  have b_lInt := FunD.bindsN (ps := ["_law_thing"]) F_lInt fun _ _ _ _ _ _ us hl => match us, hl with | [_], _ => rfl
  obtain ⟨fd_word, F_word⟩ := c.def_ 20 (d := dd "_law_word" 38) rfl
  have b_word := FunD.bindsN (ps := ["_law_pen_here", "_law_place", "_law_index", "_law_plain", "_law_most"]) F_word fun _ _ _ _ _ _ us hl => match us, hl with | [_, _, _, _, _], _ => rfl
  obtain ⟨fd_words, F_words⟩ := c.def_ 21 (d := dd "_law_words" 39) rfl
  have b_words := FunD.bindsN (ps := ["_law_pen_here", "_law_count", "_law_most"]) F_words fun _ _ _ _ _ _ us hl => match us, hl with | [_, _, _], _ => rfl
  obtain ⟨fd_kns, F_kns⟩ := c.def_ 22 (d := dd "_law_kind_names" 40) rfl
  have b_kns := FunD.bindsN (ps := ["_law_pen_here", "_law_count"]) F_kns fun _ _ _ _ _ _ us hl => match us, hl with | [_, _], _ => rfl
  obtain ⟨fd_odd, F_odd⟩ := c.def_ 23 (d := dd "_law_odd" 41) rfl
  have b_odd := FunD.bindsN (ps := ["_law_pen_here"]) F_odd fun _ _ _ _ _ _ us hl => match us, hl with | [_], _ => rfl
  obtain ⟨fd_same, F_same⟩ := c.def_ 24 (d := dd "_law_same" 42) rfl
  have b_same := FunD.bindsN (ps := ["_law_one", "_law_other"]) F_same fun _ _ _ _ _ _ us hl => match us, hl with | [_, _], _ => rfl
  obtain ⟨fd_let, F_let⟩ := c.def_ 25 (d := dd "_law_letters" 43) rfl
  have b_let := FunD.bindsN (ps := ["_law_text"]) F_let fun _ _ _ _ _ _ us hl => match us, hl with | [_], _ => rfl
  obtain ⟨fd_fld, F_fld⟩ := c.def_ 26 (d := dd "_law_is_field_name" 44) rfl
  have b_fld := FunD.bindsN (ps := ["_law_thing"]) F_fld fun _ _ _ _ _ _ us hl => match us, hl with | [_], _ => rfl
  obtain ⟨fd_knd, F_knd⟩ := c.def_ 27 (d := dd "_law_is_kind_name" 45) rfl
  have b_knd := FunD.bindsN (ps := ["_law_thing"]) F_knd fun _ _ _ _ _ _ us hl => match us, hl with | [_], _ => rfl
  obtain ⟨fd_eld, F_eld⟩ := c.def_ 28 (d := dd "_law_elder" 46) rfl
  have b_eld := FunD.bindsN (ps := ["_law_pen_here", "_law_name", "_law_pool"]) F_eld fun _ _ _ _ _ _ us hl => match us, hl with | [_, _, _], _ => rfl
  obtain ⟨fd_FP, F_FP⟩ := c.def_ 29 (d := dd "_law_field_parts" 47) rfl
  have b_FP := FunD.bindsN (ps := ["_law_pen_here", "_law_names", "_law_pool", "_law_spoils"]) F_FP fun _ _ _ _ _ _ us hl => match us, hl with | [_, _, _, _], _ => rfl
  obtain ⟨fd_ER, F_ER⟩ := c.def_ 30 (d := dd "_law_elder_right" 48) rfl
  have b_ER := FunD.bindsN (ps := ["_law_name", "_law_own_was"]) F_ER fun _ _ _ _ _ _ us hl => match us, hl with | [_, _], _ => rfl
  obtain ⟨fd_FR, F_FR⟩ := c.def_ 31 (d := dd "_law_field_right" 49) rfl
  have b_FR := FunD.bindsN (ps := ["_law_parts"]) F_FR fun _ _ _ _ _ _ us hl => match us, hl with | [_], _ => rfl
  obtain ⟨fd_FT, F_FT⟩ := c.def_ 32 (d := dd "_law_field_told" 50) rfl
  have b_FT := FunD.bindsN (ps := ["_law_parts", "_law_short"]) F_FT fun _ _ _ _ _ _ us hl => match us, hl with | [_, _], _ => rfl
  obtain ⟨fd_FD, F_FD⟩ := c.def_ 33 (d := dd "_law_field_due" 51) rfl
  have b_FD := FunD.bindsN (ps := ["_law_parts"]) F_FD fun _ _ _ _ _ _ us hl => match us, hl with | [_], _ => rfl
  obtain ⟨fd_MF, F_MF⟩ := c.def_ 34 (d := dd "_law_made_field" 52) rfl
  have b_MF := FunD.bindsN (ps := ["_law_parts"]) F_MF fun _ _ _ _ _ _ us hl => match us, hl with | [_], _ => rfl
  obtain ⟨fd_FA, F_FA⟩ := c.def_ 35 (d := dd "_law_fields_asked" 53) rfl
  have b_FA := FunD.bindsN (ps := ["_law_pen_here", "_law_names", "_law_pool"]) F_FA fun _ _ _ _ _ _ us hl => match us, hl with | [_, _, _], _ => rfl
  obtain ⟨fd_RF, F_RF⟩ := c.def_ 36 (d := dd "_law_right_fields" 54) rfl
  have b_RF := FunD.bindsN (ps := ["_law_pen_here", "_law_names", "_law_pool", "_law_count"]) F_RF fun _ _ _ _ _ _ us hl => match us, hl with | [_, _, _, _], _ => rfl
  obtain ⟨fd_KP, F_KP⟩ := c.def_ 37 (d := dd "_law_kind_parts" 55) rfl
  have b_KP := FunD.bindsN (ps := ["_law_pen_here", "_law_names", "_law_pool"]) F_KP fun _ _ _ _ _ _ us hl => match us, hl with | [_, _, _], _ => rfl
  obtain ⟨fd_KR, F_KR⟩ := c.def_ 38 (d := dd "_law_kind_right" 56) rfl
  have b_KR := FunD.bindsN (ps := ["_law_parts"]) F_KR fun _ _ _ _ _ _ us hl => match us, hl with | [_], _ => rfl
  obtain ⟨fd_KM, F_KM⟩ := c.def_ 39 (d := dd "_law_kind_made" 57) rfl
  have b_KM := FunD.bindsN (ps := ["_law_parts"]) F_KM fun _ _ _ _ _ _ us hl => match us, hl with | [_], _ => rfl
  obtain ⟨fd_KT, F_KT⟩ := c.def_ 40 (d := dd "_law_kind_told" 58) rfl
  have b_KT := FunD.bindsN (ps := ["_law_parts", "_law_handed"]) F_KT fun _ _ _ _ _ _ us hl => match us, hl with | [_, _], _ => rfl
  obtain ⟨fd_KA, F_KA⟩ := c.def_ 41 (d := dd "_law_kinds_asked" 59) rfl
  have b_KA := FunD.bindsN (ps := ["_law_pen_here", "_law_names", "_law_pool"]) F_KA fun _ _ _ _ _ _ us hl => match us, hl with | [_, _, _], _ => rfl
  obtain ⟨fd_law, F_law⟩ := c.def_ 42 (d := dd "law" 60) rfl
  have bLaw := FunD.bindsA (ps := ["_law_script"]) F_law fun _ _ _ _ _ _ us hl => match us, hl with | [_], _ => rfl
  have eL := hfa.symm.trans (g 36 "law" rfl)
  cases eL
  refine ⟨fd_law, fun s v => bLaw s [v] rfl, fun base _ _ => ?_⟩
  have B : Bn mg := ⟨fr 42 "isinstance" rfl, fr 43 "int" rfl, fr 44 "bool" rfl, fr 45 "str" rfl, fr 46 "len" rfl, fr 47 "list" rfl, fr 48 "tuple" rfl, fr 49 "all" rfl, fr 50 "set" rfl, fr 51 "repr" rfl, fr 52 "range" rfl⟩
  have blt : Blt mg := ⟨B.int, B.len, B.list⟩
  have C : Cn mg := by
    obtain ⟨t1, e1⟩ := He.str_ok (x := "SMALL") (z := smallS) X G (c.fact 53 (f := .str "SMALL" smallS) rfl)
    obtain ⟨t2, e2⟩ := He.str_ok (x := "LARGE") (z := largeS) X G (c.fact 54 (f := .str "LARGE" largeS) rfl)
    obtain ⟨t3, e3⟩ := He.int_ok (x := "NAME_LETTERS") (i := 8) X G (c.fact 55 (f := .int "NAME_LETTERS" 8) rfl)
    obtain ⟨t4, e4⟩ := He.int_ok (x := "DEFAULT_BOUND") (i := 1000000000000) X G (c.fact 56 (f := .int "DEFAULT_BOUND" 1000000000000) rfl)
    obtain ⟨t5, e5⟩ := He.str_ok (x := "ANY") (z := "any") X G (c.fact 57 (f := .str "ANY" "any") rfl)
    obtain ⟨t6, e6⟩ := He.int_ok (x := "OLD_NAMES") (i := 2) X G (c.fact 58 (f := .int "OLD_NAMES" 2) rfl)
    exact ⟨⟨_, e1, ⟨t1, rfl⟩⟩, ⟨_, e2, ⟨t2, rfl⟩⟩, ⟨_, e3, ⟨t3, rfl⟩⟩, ⟨_, e4, ⟨t4, rfl⟩⟩, ⟨_, e5, ⟨t5, rfl⟩⟩, ⟨_, e6, ⟨t6, rfl⟩⟩⟩
  have mo : Mo K mg := ⟨He.ga K "SLOT_MODES", default, [], 0, g 81 "SLOT_MODES" rfl, fun H => Hb.tupB_ok (ex 12 _ rfl) H⟩
  have pF : PlainC K (He.ga K "Field") ["name", "mode", "target", "default", "was"] := ⟨He.cls_ok (c.fact 59 (f := .cls "Field") rfl), fun m hm => by
    simp only [List.mem_cons, List.not_mem_nil, or_false] at hm
    rcases hm with rfl | rfl | rfl | rfl | rfl
    · exact He.noat_ok (c.fact 61 (f := .noat "Field" "name") rfl)
    · exact He.noat_ok (c.fact 62 (f := .noat "Field" "mode") rfl)
    · exact He.noat_ok (c.fact 63 (f := .noat "Field" "target") rfl)
    · exact He.noat_ok (c.fact 64 (f := .noat "Field" "default") rfl)
    · exact He.noat_ok (c.fact 65 (f := .noat "Field" "was") rfl)⟩
  have pK : PlainC K (He.ga K "Kind") ["name", "fields", "base", "frozen", "heirs", "key", "registered"] := ⟨He.cls_ok (c.fact 60 (f := .cls "Kind") rfl), fun m hm => by
    simp only [List.mem_cons, List.not_mem_nil, or_false] at hm
    rcases hm with rfl | rfl | rfl | rfl | rfl | rfl | rfl
    · exact He.noat_ok (c.fact 66 (f := .noat "Kind" "name") rfl)
    · exact He.noat_ok (c.fact 67 (f := .noat "Kind" "fields") rfl)
    · exact He.noat_ok (c.fact 68 (f := .noat "Kind" "base") rfl)
    · exact He.noat_ok (c.fact 69 (f := .noat "Kind" "frozen") rfl)
    · exact He.noat_ok (c.fact 70 (f := .noat "Kind" "heirs") rfl)
    · exact He.noat_ok (c.fact 71 (f := .noat "Kind" "key") rfl)
    · exact He.noat_ok (c.fact 72 (f := .noat "Kind" "registered") rfl)⟩
  have oF : OwnC K (He.ga K "Field") := Hb.ownB_ok pF.cl (ex 4 _ rfl)
  have oK : OwnC K (He.ga K "Kind") := Hb.ownB_ok pK.cl (ex 5 _ rfl)
  obtain ⟨crd, u10, cvl⟩ := Hb.conB_ok (ex 14 _ rfl)
  have exF := He.exm_ok (x := "BadField") (y := "BadField") (b := true) (c.fact 79 (f := .exm "BadField" "BadField" true) rfl)
  have exK := He.exm_ok (x := "BadKind") (y := "BadKind") (b := true) (c.fact 80 (f := .exm "BadKind" "BadKind" true) rfl)
  have shBF : ShI (meth 3 0) "name" := ⟨⟨rfl, rfl, rfl, by decide +kernel, rfl, by decide +kernel, by decide +kernel⟩, by decide +kernel, by decide +kernel, by decide +kernel, by decide +kernel⟩
  have shBK : ShI (meth 4 0) "name" := ⟨⟨rfl, rfl, rfl, by decide +kernel, rfl, by decide +kernel, by decide +kernel⟩, by decide +kernel, by decide +kernel, by decide +kernel, by decide +kernel⟩
  have mBF : Mk1 P w K mg base "BadField" "name" (He.ga K "BadField") (He.ma K (He.ga K "BadField") "__init__") fd_BF := by
    refine ⟨Hb.oexB_ok (ex 0 _ rfl), Hb.excB_ok (ex 1 _ rfl), He.eqO_ok (c.fact 75 (f := .noat "BadField" "name") rfl), g 40 "BadField" rfl, He.eqO_ok (He.ba (c.fact 77 (f := .meth "BadField" "__init__") rfl)).1, beq_iff_eq.mp (He.ba (He.ba (c.fact 77 (f := .meth "BadField" "__init__") rfl)).2).1, ok_init1 (He5.fun_of (st := meth 3 0) F_BF) rfl shBF.S shBF.hs shBF.hl shBF.hd shBF.hc (Hb.oexB_ok (ex 0 _ rfl)) (He.eqO_ok (c.fact 75 (f := .noat "BadField" "name") rfl)), b_BF⟩
  have mBK : Mk1 P w K mg base "BadKind" "name" (He.ga K "BadKind") (He.ma K (He.ga K "BadKind") "__init__") fd_BK := by
    refine ⟨Hb.oexB_ok (ex 2 _ rfl), Hb.excB_ok (ex 3 _ rfl), He.eqO_ok (c.fact 76 (f := .noat "BadKind" "name") rfl), g 41 "BadKind" rfl, He.eqO_ok (He.ba (c.fact 78 (f := .meth "BadKind" "__init__") rfl)).1, beq_iff_eq.mp (He.ba (He.ba (c.fact 78 (f := .meth "BadKind" "__init__") rfl)).2).1, ok_init1 (He5.fun_of (st := meth 4 0) F_BK) rfl shBK.S shBK.hs shBK.hl shBK.hd shBK.hc (Hb.oexB_ok (ex 2 _ rfl)) (He.eqO_ok (c.fact 76 (f := .noat "BadKind" "name") rfl)), b_BK⟩
  have k_isInt : Known P w K mg base _ _ "is_integer" _ _ _ fd_isInt := ⟨ok_isInt (He5.fun_of (st := top 12) F_isInt) B, g 0 "is_integer" rfl, F_isInt.kp, b_isInt⟩
  have k_isWord : Known P w K mg base _ _ "is_word" _ _ _ fd_isWord := ⟨ok_isWord (He5.fun_of (st := top 13) F_isWord) B C, g 1 "is_word" rfl, F_isWord.kp, b_isWord⟩
  have k_isField : Known P w K mg base _ _ "is_field_name" _ _ _ fd_isField := ⟨ok_isField (He5.fun_of (st := top 14) F_isField) C k_isWord, g 2 "is_field_name" rfl, F_isField.kp, b_isField⟩
  have k_isKind : Known P w K mg base _ _ "is_kind_name" _ _ _ fd_isKind := ⟨ok_isKind (He5.fun_of (st := top 15) F_isKind) B C, g 3 "is_kind_name" rfl, F_isKind.kp, b_isKind⟩
  have k_isDef : Known P w K mg base _ _ "is_default" _ _ _ fd_isDef := ⟨ok_isDef (He5.fun_of (st := top 16) F_isDef) C k_isInt, g 4 "is_default" rfl, F_isDef.kp, b_isDef⟩
  have k_diff : Known P w K mg base _ _ "are_different" _ _ _ fd_diff := ⟨ok_diff (He5.fun_of (st := top 17) F_diff) B, g 5 "are_different" rfl, F_diff.kp, b_diff⟩
  have k_fits : Known P w K mg base _ _ "_fits_mode" _ _ _ fd_fits := ⟨ok_fits (He5.fun_of (st := top 22) F_fits) C mo k_isInt k_isDef k_isKind, g 6 "_fits_mode" rfl, F_fits.kp, b_fits⟩
  have k_was : Known P w K mg base _ _ "_is_was" _ _ _ fd_was := ⟨ok_was (He5.fun_of (st := top 23) F_was) B C k_isField k_diff, g 7 "_is_was" rfl, F_was.kp, b_was⟩
  have mF : MkF P w K mg base (He.ga K "Field") _ _ fd_FI := ⟨ok_FI F_FI B k_isField k_fits k_was mBF pF, He.mkr_ok (c.fact 73 (f := .mkr "Field") rfl), g 37 "Field" rfl, FunD_kbN (ps := psF) F_FI 3 ["target", "default", "was"] fun _ _ _ _ _ _ us ws h1 h2 => match us, h1, ws, h2 with | [_, _, _], _, [_, _, _], _ => rfl⟩
  have mF2 : MkF2 K fd_FI (Hb.kwdAt ("Field", some "__init__") "was" K) := by
    obtain ⟨mv, kb⟩ := FunD.kbinds0 (ps := psF) F_FI 3 [] [("target", V.non), ("default", V.int 0), ("was", V.ref (Hb.kwdAt ("Field", some "__init__") "was" K))] (fun us mv ws => us ++ (mv ++ ws)) (by intro z; cases z) (fun q hq => hq) (fun a b c => a.append (b.append c)) fun D doc pm an cdv ct us mv ws h1 h2 h3 => match us, h1, mv, h2, ws, h3 with
      | [_, _, _], _, [_, _, _], _, [], _ => ⟨_, _, _, _, _, _, rfl, rfl, _, _, _, _, _, _, rfl, rfl, _, _, _, _, _, _, rfl, rfl, rfl⟩
    refine ⟨⟨fun us ws => us ++ mv, ⟨fun s us ws X l1 l2 => ?_, fun {vs us zs ws} a b => ?_⟩⟩, fun H => .dat (.tup (Hb.tupB_ok (ex 13 _ rfl) H) .nil) rfl⟩
    · have q := kb.to s us ws X l1 l2
      obtain rfl : ws = [] := List.eq_nil_of_length_eq_zero l2
      simpa using q
    · have q := kb.rel a (.nil : Vals [] [])
      simpa using q
  have k_AF : Known P w K mg base _ _ "_are_fields" _ _ _ fd_AF := ⟨ok_AF (He5.fun_of (st := top 25) F_AF) B oF pF (g 37 "Field" rfl) (g 39 "House" rfl) crd cvl k_diff, g 8 "_are_fields" rfl, F_AF.kp, b_AF⟩
  have k_CB : Known P w K mg base _ _ "_can_be" _ _ _ fd_CB := ⟨ok_CB (He5.fun_of (st := top 26) F_CB) B, g 9 "_can_be" rfl, F_CB.kp, b_CB⟩
  have mK : MkKd P w K mg base (He.ga K "Field") (He.ga K "Kind") _ _ fd_KI := ⟨ok_KI F_KI B k_isKind k_isField k_AF k_CB mBK pK, He.mkr_ok (c.fact 74 (f := .mkr "Kind") rfl), g 38 "Kind" rfl, FunD_kbN (ps := psK) F_KI 3 ["base", "frozen", "heirs", "key", "registered"] fun _ _ _ _ _ _ us ws h1 h2 => match us, h1, ws, h2 with | [_, _, _], _, [_, _, _, _, _], _ => rfl⟩
  have mK2 : MkK2 K fd_KI := by
    obtain ⟨mv, kb⟩ := FunD.kbinds0 (ps := psK) F_KI 3 [] [("base", V.non), ("frozen", V.bl false), ("heirs", V.bl false), ("key", V.non), ("registered", V.bl false)] (fun us mv ws => us ++ (mv ++ ws)) (by intro z; cases z) (fun q hq => hq) (fun a b c => a.append (b.append c)) fun D doc pm an cdv ct us mv ws h1 h2 h3 => match us, h1, mv, h2, ws, h3 with
      | [_, _, _], _, [_, _, _, _, _], _, [], _ => ⟨_, _, _, _, _, _, rfl, rfl, _, _, _, _, _, _, rfl, rfl, _, _, _, _, _, _, rfl, rfl, _, _, _, _, _, _, rfl, rfl, _, _, _, _, _, _, rfl, rfl, rfl⟩
    refine ⟨⟨fun us ws => us ++ mv, ⟨fun s us ws X l1 l2 => ?_, fun {vs us zs ws} a b => ?_⟩⟩⟩
    · have q := kb.to s us ws X l1 l2
      obtain rfl : ws = [] := List.eq_nil_of_length_eq_zero l2
      simpa using q
    · have q := kb.rel a (.nil : Vals [] [])
      simpa using q
  have eqF : EqF P w K mg base (He.ga K "Field") _ fd_FE := ⟨ok_FE (He5.fun_of (st := meth 24 1) F_FE) B oF pF (g 37 "Field" rfl), b_FE, Hb.eqB_ok (ex 6 _ rfl), (ex 8 _ rfl), (ex 9 _ rfl)⟩
  have eqK : EqK P w K mg base (He.ga K "Kind") _ fd_KE := ⟨ok_KE (He5.fun_of (st := meth 27 1) F_KE) B oK pK (g 38 "Kind" rfl), b_KE, Hb.eqB_ok (ex 7 _ rfl), (ex 10 _ rfl), (ex 11 _ rfl)⟩
  have k_pen : Known P w K mg base _ _ "_law_pen" _ _ _ fd_pen := ⟨ok_pen (He5.fun_of (st := top 34) F_pen) blt, g 10 "_law_pen" rfl, F_pen.kp, b_pen⟩
  have k_take : Known P w K mg base _ _ "_law_take" _ _ _ fd_take := ⟨ok_take (He5.fun_of (st := top 35) F_take) blt, g 11 "_law_take" rfl, F_take.kp, b_take⟩
  have k_one : Known P w K mg base _ _ "_law_one_of" _ _ _ fd_one := ⟨ok_one (He5.fun_of (st := top 36) F_one) blt k_take.ok k_take.bi k_take.mg k_take.kp, g 12 "_law_one_of" rfl, F_one.kp, b_one⟩
  have k_lInt : Known P w K mg base _ _ "_law_is_integer" _ _ _ fd_lInt := ⟨ok_lInt (He5.fun_of (st := top 37) F_lInt) B, g 13 "_law_is_integer" rfl, F_lInt.kp, b_lInt⟩
  have k_word : Known P w K mg base _ _ "_law_word" _ _ _ fd_word := ⟨ok_lWd (He5.fun_of (st := top 38) F_word) B k_take, g 14 "_law_word" rfl, F_word.kp, b_word⟩
  have k_words : Known P w K mg base _ _ "_law_words" _ _ _ fd_words := ⟨ok_lWds (He5.fun_of (st := top 39) F_words) B k_take k_one k_word, g 15 "_law_words" rfl, F_words.kp, b_words⟩
  have k_kns : Known P w K mg base _ _ "_law_kind_names" _ _ _ fd_kns := ⟨ok_lKns (He5.fun_of (st := top 40) F_kns) B k_words, g 16 "_law_kind_names" rfl, F_kns.kp, b_kns⟩
  have k_odd : Known P w K mg base _ _ "_law_odd" _ _ _ fd_odd := ⟨ok_lOdd (He5.fun_of (st := top 41) F_odd) B k_one, g 17 "_law_odd" rfl, F_odd.kp, b_odd⟩
  have k_same : KnownQ P w K mg base _ "_law_same" _ _ _ fd_same := ⟨ok_lSame (He5.fun_of (st := top 42) F_same) B, g 18 "_law_same" rfl, F_same.kp, b_same⟩
  have k_sameH : KnownGH P w K mg base _ _ "_law_same" _ _ _ fd_same := ⟨okGH_lSame (He5.fun_of (st := top 42) F_same) B, g 18 "_law_same" rfl, F_same.kp, b_same⟩
  have k_let : Known P w K mg base _ _ "_law_letters" _ _ _ fd_let := ⟨ok_lLet (He5.fun_of (st := top 43) F_let) B, g 19 "_law_letters" rfl, F_let.kp, b_let⟩
  have k_letH : KnownH P w K mg base _ _ "_law_letters" _ _ _ fd_let := ⟨okH_lLet (He5.fun_of (st := top 43) F_let) B, g 19 "_law_letters" rfl, F_let.kp, b_let⟩
  have k_fld : Known P w K mg base _ _ "_law_is_field_name" _ _ _ fd_fld := ⟨ok_lFld (He5.fun_of (st := top 44) F_fld) B k_let, g 20 "_law_is_field_name" rfl, F_fld.kp, b_fld⟩
  have k_fldH : KnownH P w K mg base _ _ "_law_is_field_name" _ _ _ fd_fld := ⟨okH_lFld (He5.fun_of (st := top 44) F_fld) B k_letH, g 20 "_law_is_field_name" rfl, F_fld.kp, b_fld⟩
  have k_knd : Known P w K mg base _ _ "_law_is_kind_name" _ _ _ fd_knd := ⟨ok_lKnd (He5.fun_of (st := top 45) F_knd) B k_let, g 21 "_law_is_kind_name" rfl, F_knd.kp, b_knd⟩
  have k_kndH : KnownH P w K mg base _ _ "_law_is_kind_name" _ _ _ fd_knd := ⟨okH_lKnd (He5.fun_of (st := top 45) F_knd) B k_letH, g 21 "_law_is_kind_name" rfl, F_knd.kp, b_knd⟩
  have k_eld : Known P w K mg base _ _ "_law_elder" _ _ _ fd_eld := ⟨ok_lEld (He5.fun_of (st := top 46) F_eld) B k_take k_one, g 22 "_law_elder" rfl, F_eld.kp, b_eld⟩
  have k_FP : Known P w K mg base _ _ "_law_field_parts" _ _ _ fd_FP := ⟨ok_lFP (He5.fun_of (st := top 47) F_FP) B k_take k_one k_eld k_odd, g 23 "_law_field_parts" rfl, F_FP.kp, b_FP⟩
  have k_ER : Known P w K mg base _ _ "_law_elder_right" _ _ _ fd_ER := ⟨ok_lER (He5.fun_of (st := top 48) F_ER) B k_fld, g 24 "_law_elder_right" rfl, F_ER.kp, b_ER⟩
  have k_FR : KnownQ P w K mg base _ "_law_field_right" _ _ _ fd_FR := ⟨ok_FR (He5.fun_of (st := top 49) F_FR) B k_fld k_lInt k_ER k_knd k_same, g 25 "_law_field_right" rfl, F_FR.kp, b_FR⟩
  have k_FT : Known P w K mg base _ _ "_law_field_told" _ _ _ fd_FT := ⟨ok_FT (He5.fun_of (st := top 50) F_FT) B mF mF2 pF mBF exF, g 26 "_law_field_told" rfl, F_FT.kp, b_FT⟩
  have k_FD : KnownQ P w K mg base _ "_law_field_due" _ _ _ fd_FD := ⟨ok_FD (He5.fun_of (st := top 51) F_FD) B k_FR, g 27 "_law_field_due" rfl, F_FD.kp, b_FD⟩
  have k_MF : Known P w K mg base _ _ "_law_made_field" _ _ _ fd_MF := ⟨ok_MF (He5.fun_of (st := top 52) F_MF) B mF, g 28 "_law_made_field" rfl, F_MF.kp, b_MF⟩
  have k_FA : KnownQ P w K mg base _ "_law_fields_asked" _ _ _ fd_FA := ⟨ok_FA (He5.fun_of (st := top 53) F_FA) B k_take k_FP k_FR k_MF k_FT k_FD k_same eqF, g 29 "_law_fields_asked" rfl, F_FA.kp, b_FA⟩
  have k_RF : KnownQ P w K mg base _ "_law_right_fields" _ _ _ fd_RF := ⟨ok_RF (He5.fun_of (st := top 54) F_RF) B k_take k_FP k_FR k_MF, g 30 "_law_right_fields" rfl, F_RF.kp, b_RF⟩
  have k_KP : KnownQ P w K mg base _ "_law_kind_parts" _ _ _ fd_KP := ⟨ok_KP (He5.fun_of (st := top 55) F_KP) B k_take k_one k_odd k_RF, g 31 "_law_kind_parts" rfl, F_KP.kp, b_KP⟩
  have k_KR : Known P w K mg base _ _ "_law_kind_right" _ _ _ fd_KR := ⟨ok_KR (He5.fun_of (st := top 56) F_KR) B oF pF (g 37 "Field" rfl) k_knd k_fld, g 32 "_law_kind_right" rfl, F_KR.kp, b_KR⟩
  have k_KRH : KnownH P w K mg base _ _ "_law_kind_right" _ _ _ fd_KR := ⟨okH_KR (He5.fun_of (st := top 56) F_KR) B oF pF (g 37 "Field" rfl) k_kndH k_fldH, g 32 "_law_kind_right" rfl, F_KR.kp, b_KR⟩
  have k_KM : Known P w K mg base _ _ "_law_kind_made" _ _ _ fd_KM := ⟨ok_KM F_KM B mK, g 33 "_law_kind_made" rfl, F_KM.kp, b_KM⟩
  have k_KT : KnownQ P w K mg base _ "_law_kind_told" _ _ _ fd_KT := ⟨ok_KT (He5.fun_of (st := top 58) F_KT) B oF pK k_KM k_KR k_KRH k_same k_sameH mBK exK eqF, g 34 "_law_kind_told" rfl, F_KT.kp, b_KT⟩
  have k_KA : KnownQ P w K mg base _ "_law_kinds_asked" _ _ _ fd_KA := ⟨ok_KA (He5.fun_of (st := top 59) F_KA) B k_take k_KP k_KM k_KR k_same k_KT eqK, g 35 "_law_kinds_asked" rfl, F_KA.kp, b_KA⟩
  exact ok_law (He5.fun_of (st := top 60) F_law) B k_pen k_kns k_words k_FA k_KA k_same mK mK2 pK
end Wp
open PySem PySem.W PySem.Calls PyProof.Rows
theorem PySem.Challenge.cw_waypairs_k01_fields_and_kinds_made_holds : PySem.Challenge.rw_waypairs_k01_fields_and_kinds_made.Holds := by
  w_on; o_law
  refine HandSHeadRun.head_any (r := OpenLaw.row PySem.Challenge.rw_waypairs_k01_fields_and_kinds_made) (q := view (OpenLaw.row PySem.Challenge.rw_waypairs_k01_fields_and_kinds_made).prog [60]) (H := Wp.hk) (ob := Wp.ob) (M := 6000) (loose := ((["is_integer", "is_word", "is_field_name", "is_kind_name", "is_default", "are_different", "_fits_mode", "_is_was", "_are_fields", "_can_be", "_law_pen", "_law_take", "_law_one_of", "_law_is_integer", "_law_word", "_law_words", "_law_kind_names", "_law_odd", "_law_same", "_law_letters", "_law_is_field_name", "_law_is_kind_name", "_law_elder", "_law_field_parts", "_law_elder_right"] : List PySem.Str) ++ (["_law_field_right", "_law_field_told", "_law_field_due", "_law_made_field", "_law_fields_asked", "_law_right_fields", "_law_kind_parts", "_law_kind_right", "_law_kind_made", "_law_kind_told", "_law_kinds_asked", "Field", "Kind", "House", "BadField", "BadKind", "WayError", "BadHouse", "UnknownKind", "_check_kinds", "_holds_alone", "_all_fields", "_far_from", "_wall", "SLOT_MODES"] : List PySem.Str) ++ (["SMALL", "LARGE", "NAME_LETTERS", "DEFAULT_BOUND", "ANY", "OLD_NAMES"] : List PySem.Str))) (d := HandSHeadRun.topDef (OpenLaw.row PySem.Challenge.rw_waypairs_k01_fields_and_kinds_made).prog 60) (kwd := []) Wp.ob_eq
    (by kernel_rfl) (fun s => by kernel_rfl) Wp.run (by kernel_rfl) (by kernel_rfl) (by kernel_rfl) (by rfl) (by first | assumption | decide +kernel) (by decide +kernel) ⟨rfl, rfl, rfl, rfl, rfl, by decide +kernel⟩ ?hw ?hc
  case hw => w_witness2
  case hc =>
    refine Wp.walk_GE (l := PySem.Challenge.rw_waypairs_k01_fields_and_kinds_made) (n := 63) (k := 10) (x := "_law_script") (CX := L2.CX0) rfl (by decide) (by kernel_rfl) ⟨rfl, by decide, by decide⟩ ?F (fun _ _ _ _ z => z)
    intro w mg fa h Y G hmg0
    obtain ⟨K, KX, c⟩ := Y
    have hmg : mg ("law" : PySem.Str) = some (.ref fa) := by
      have e : (HandSHeadRun.topDef (OpenLaw.row PySem.Challenge.rw_waypairs_k01_fields_and_kinds_made).prog 60).name = ("law" : PySem.Str) := by kernel_rfl
      rw [← e]
      exact hmg0
    obtain ⟨fd, hb, hF⟩ := Wp.facts (P := (PySem.Challenge.rw_waypairs_k01_fields_and_kinds_made).prog) (w := w) KX G hmg c
    exact ⟨K, fd, Wp.spLaw K, KX, hb, fun H a ns hl _ hS => ⟨a, ns, rfl, hS, hl, fun _ => rfl⟩, hF⟩
