import PyProof.Rows.All
import Wide.All
import OpenK.AllK
import Wide.FinOn
import HandS.ForMost
import HandS.Wide
import HandS.Strs
import HandS.OwnEq
import HandS.More
import HandS.IsInst
import HandS.Walk
import HandS.ForExc
import KE.KExcIs
import HandS.ExcInit
import HandS.ExcIs
import HandS.ExcValue
import HandS.ExcField
import HandS.MakeKwOnly
import HandS.ClsMeth
import PyProof.NeKinds
import HandS.ExcCtx
import HandS.Head0
import HandS.Head1
import HandS.Head2
import HandS.HeadEnd
import HandS.HeadHook1
import HandS.HeadHook2
import HandS.HeadHook3
import HandS.HeadNt
import HandS.Words
import HandS.WordsExc
import HandS.Comp
import HandS.Deep
import HandS.DictComp
import HandS.Dict
import HandS.TupAny
import HandS.Flow
import HandS.MakeKw
import HandS.DictSub
import OpenK.KMeth
import HandS.TupLe
import HandS.ExcOwn
import HandS.TryElse
import HandS.List
import PyProof.ReprBulk
import PyProof.ReprLen
import PyProof.Fits
import PyProof.FitsInt
import PyProof.Rows.RegFStrParts
import PyProof.Rows.StrCase
import HandS.DictTup
import HandS.TupLen
import KE.KDictKeyed
import KE.KDictLaw
import KE.KDictItemsList
import HandS.ReCall
import PySem.Challenge.RW_waypairs_k02_houses_asked
set_option Elab.async false
set_option linter.all false
set_option maxRecDepth 100000
set_option maxHeartbeats 4000000
namespace Wp
open PySem L2
def top (i : Nat) : Stmt := PySem.Challenge.pw_waypairs_k02_houses_asked.main.body.getD i (.Pass ⟨0, 0, 0, 0⟩)
abbrev sPen : Stmt := top 34
abbrev sTake : Stmt := top 35
abbrev sOne : Stmt := top 36
/-! ## The pen: a dict of six names -/
def penD (c : Addr) (a r d m t : Int) : List (Key × V) :=
  [(Sum.inr "cells", .ref c), (Sum.inr "at", .int a), (Sum.inr "rest", .int r), (Sum.inr "digits", .int d), (Sum.inr "mix", .int m), (Sum.inr "turn", .int t)]
theorem kne {x y : Str} (h : ¬ x = y) : ¬ (Sum.inr x : Key) = Sum.inr y := fun z => h (Sum.inr.inj z)
section
variable {c : Addr} {a r d m t z : Int}
theorem pd_cells : valV (penD c a r d m t) (Sum.inr "cells") = some (.ref c) := valV_pos rfl
theorem pd_at : valV (penD c a r d m t) (Sum.inr "at") = some (.int a) := (valV_neg (kne (by decide +kernel))).trans (valV_pos rfl)
theorem pd_rest : valV (penD c a r d m t) (Sum.inr "rest") = some (.int r) :=
  (valV_neg (kne (by decide +kernel))).trans ((valV_neg (kne (by decide +kernel))).trans (valV_pos rfl))
theorem pd_digits : valV (penD c a r d m t) (Sum.inr "digits") = some (.int d) :=
  (valV_neg (kne (by decide +kernel))).trans ((valV_neg (kne (by decide +kernel))).trans ((valV_neg (kne (by decide +kernel))).trans (valV_pos rfl)))
theorem pd_mix : valV (penD c a r d m t) (Sum.inr "mix") = some (.int m) :=
  (valV_neg (kne (by decide +kernel))).trans ((valV_neg (kne (by decide +kernel))).trans ((valV_neg (kne (by decide +kernel))).trans ((valV_neg (kne (by decide +kernel))).trans (valV_pos rfl))))
theorem pd_turn : valV (penD c a r d m t) (Sum.inr "turn") = some (.int t) :=
  (valV_neg (kne (by decide +kernel))).trans ((valV_neg (kne (by decide +kernel))).trans ((valV_neg (kne (by decide +kernel))).trans ((valV_neg (kne (by decide +kernel))).trans ((valV_neg (kne (by decide +kernel))).trans (valV_pos rfl)))))
theorem put_of {kvs : List (Key × V)} {k : Key} {u w : V} (h : valV kvs k = some u) : putK kvs k w = kvs.map fun kv => if kv.1 = k then (kv.1, w) else kv := by
  unfold putK
  rw [if_pos (by rw [valV_any, h]; rfl)]
theorem n1 : ¬ ("cells" : Str) = "at" := by decide +kernel
theorem n2 : ¬ ("cells" : Str) = "rest" := by decide +kernel
theorem n3 : ¬ ("cells" : Str) = "digits" := by decide +kernel
theorem n4 : ¬ ("cells" : Str) = "mix" := by decide +kernel
theorem n5 : ¬ ("cells" : Str) = "turn" := by decide +kernel
theorem n6 : ¬ ("at" : Str) = "rest" := by decide +kernel
theorem n7 : ¬ ("at" : Str) = "digits" := by decide +kernel
theorem n8 : ¬ ("at" : Str) = "mix" := by decide +kernel
theorem n9 : ¬ ("at" : Str) = "turn" := by decide +kernel
theorem n10 : ¬ ("rest" : Str) = "digits" := by decide +kernel
theorem n11 : ¬ ("rest" : Str) = "mix" := by decide +kernel
theorem n12 : ¬ ("rest" : Str) = "turn" := by decide +kernel
theorem n13 : ¬ ("digits" : Str) = "mix" := by decide +kernel
theorem n14 : ¬ ("digits" : Str) = "turn" := by decide +kernel
theorem n15 : ¬ ("mix" : Str) = "turn" := by decide +kernel
theorem pp_at : putK (penD c a r d m t) (Sum.inr "at") (.int z) = penD c z r d m t := by
  rw [put_of pd_at]
  simp [penD, n1, n2, n3, n4, n5, n6, n7, n8, n9, n10, n11, n12, n13, n14, n15, Ne.symm n1, Ne.symm n6, Ne.symm n7, Ne.symm n8, Ne.symm n9]
theorem pp_rest : putK (penD c a r d m t) (Sum.inr "rest") (.int z) = penD c a z d m t := by
  rw [put_of pd_rest]
  simp [penD, n1, n2, n3, n4, n5, n6, n7, n8, n9, n10, n11, n12, n13, n14, n15, Ne.symm n10, Ne.symm n11, Ne.symm n12]
theorem pp_digits : putK (penD c a r d m t) (Sum.inr "digits") (.int z) = penD c a r z m t := by
  rw [put_of pd_digits]
  simp [penD, n1, n2, n3, n4, n5, n6, n7, n8, n9, n10, n11, n12, n13, n14, n15, Ne.symm n13, Ne.symm n14]
theorem pp_mix : putK (penD c a r d m t) (Sum.inr "mix") (.int z) = penD c a r d z t := by
  rw [put_of pd_mix]
  simp [penD, n1, n2, n3, n4, n5, n6, n7, n8, n9, n10, n11, n12, n13, n14, n15, Ne.symm n15]
theorem pp_turn : putK (penD c a r d m t) (Sum.inr "turn") (.int z) = penD c a r d m z := by
  rw [put_of pd_turn]
  simp [penD, n1, n2, n3, n4, n5, n6, n7, n8, n9, n10, n11, n12, n13, n14, n15]
end
/-- the pen at p: its cells at c hold ns; at is a place, mix is small -/
structure PenAt (H : Hp) (p c : Addr) (ns : List Int) (a r d m t : Int) : Prop where
  pd : H p = some (.dK (penD c a r d m t))
  cl : H c = some (.lst (ns.map V.int))
  a0 : 0 ≤ a
  m0 : 0 ≤ m
  m1 : m < 2147483647
theorem PenAt.ne {H : Hp} {p c : Addr} {ns : List Int} {a r d m t : Int} (h : PenAt H p c ns a r d m t) : c ≠ p := ne_of h.cl h.pd (by intro z; cases z)
theorem PenAt.set {H : Hp} {p c : Addr} {ns : List Int} {a r d m t a' r' d' m' t' : Int} (h : PenAt H p c ns a r d m t) (a0 : 0 ≤ a') (m0 : 0 ≤ m') (m1 : m' < 2147483647) :
    PenAt (upd H p (.dK (penD c a' r' d' m' t'))) p c ns a' r' d' m' t' := ⟨upd_same, by rw [upd_ne h.ne]; exact h.cl, a0, m0, m1⟩
/-- take(pen, bound): a number below the bound; the pen alone changes -/
def spTake : Sp := fun vs H Q _ => ∃ (p c : Addr) (ns : List Int) (a r d m t b : Int), vs = [.ref p, .int b] ∧ PenAt H p c ns a r d m t ∧ 0 < b ∧ b < 2 ^ 60 ∧
  ∀ (v a' r' d' m' t' : Int), 0 ≤ v → v < b → 0 ≤ a' → 0 ≤ m' → m' < 2147483647 → Q (.int v) (upd H p (.dK (penD c a' r' d' m' t')))
end Wp
set_option Elab.async false
set_option linter.all false
set_option maxRecDepth 100000
set_option maxHeartbeats 4000000
namespace Wp
open PySem L2
theorem upd_id {H : Hp} {p : Addr} {o : HO} (h : H p = some o) : upd H p o = H := by
  funext b
  by_cases e : b = p
  · rw [e, upd_same, h]
  · rw [upd_ne e]
section
variable {H : Hp} {p c : Addr} {a r d m t z : Int}
theorem gq_cells : DGet (upd H p (.dK (penD c a r d m t))) p (.str "cells") (some (.ref c)) := by
  have q := DGet.k (H := upd H p (.dK (penD c a r d m t))) (a := p) (k := Sum.inr "cells") upd_same
  rw [pd_cells] at q
  exact q
theorem gq_at : DGet (upd H p (.dK (penD c a r d m t))) p (.str "at") (some (.int a)) := by
  have q := DGet.k (H := upd H p (.dK (penD c a r d m t))) (a := p) (k := Sum.inr "at") upd_same
  rw [pd_at] at q
  exact q
theorem gq_rest : DGet (upd H p (.dK (penD c a r d m t))) p (.str "rest") (some (.int r)) := by
  have q := DGet.k (H := upd H p (.dK (penD c a r d m t))) (a := p) (k := Sum.inr "rest") upd_same
  rw [pd_rest] at q
  exact q
theorem gq_digits : DGet (upd H p (.dK (penD c a r d m t))) p (.str "digits") (some (.int d)) := by
  have q := DGet.k (H := upd H p (.dK (penD c a r d m t))) (a := p) (k := Sum.inr "digits") upd_same
  rw [pd_digits] at q
  exact q
theorem gq_mix : DGet (upd H p (.dK (penD c a r d m t))) p (.str "mix") (some (.int m)) := by
  have q := DGet.k (H := upd H p (.dK (penD c a r d m t))) (a := p) (k := Sum.inr "mix") upd_same
  rw [pd_mix] at q
  exact q
theorem gq_turn : DGet (upd H p (.dK (penD c a r d m t))) p (.str "turn") (some (.int t)) := by
  have q := DGet.k (H := upd H p (.dK (penD c a r d m t))) (a := p) (k := Sum.inr "turn") upd_same
  rw [pd_turn] at q
  exact q
theorem pq_of {kvs kvs' : List (Key × V)} {k : Key} {v : V} (e : putK kvs k v = kvs') (hl : kvs.length < sizeLine) : DPut (upd H p (.dK kvs)) p (kV k) v (upd H p (.dK kvs')) := by
  have q := DPut.k (H := upd H p (.dK kvs)) (a := p) (k := k) (v := v) upd_same hl
  rw [upd_upd, e] at q
  exact q
theorem pq_at : DPut (upd H p (.dK (penD c a r d m t))) p (.str "at") (.int z) (upd H p (.dK (penD c z r d m t))) := pq_of (k := Sum.inr "at") pp_at (by show 6 < sizeLine; decide)
theorem pq_rest : DPut (upd H p (.dK (penD c a r d m t))) p (.str "rest") (.int z) (upd H p (.dK (penD c a z d m t))) := pq_of (k := Sum.inr "rest") pp_rest (by show 6 < sizeLine; decide)
theorem pq_digits : DPut (upd H p (.dK (penD c a r d m t))) p (.str "digits") (.int z) (upd H p (.dK (penD c a r z m t))) := pq_of (k := Sum.inr "digits") pp_digits (by show 6 < sizeLine; decide)
theorem pq_mix : DPut (upd H p (.dK (penD c a r d m t))) p (.str "mix") (.int z) (upd H p (.dK (penD c a r d z t))) := pq_of (k := Sum.inr "mix") pp_mix (by show 6 < sizeLine; decide)
theorem pq_turn : DPut (upd H p (.dK (penD c a r d m t))) p (.str "turn") (.int z) (upd H p (.dK (penD c a r d m z))) := pq_of (k := Sum.inr "turn") pp_turn (by show 6 < sizeLine; decide)
end
structure Blt (mg : Str → Option Value) : Prop where
  int : mg "int" = none
  len : mg "len" = none
  list : mg "list" = none
section
variable {P : Program} {w : World} {K : PySem.W.Frag} {mg : Str → Option Value} {base : Heap}
theorem scT : FnScope ["_law_pen_here", "_law_bound", "_law_cell", "_law_mixed", "_law_digit"] ["_law_pen_here", "_law_bound"] (defScope sTake) :=
  ⟨rfl, rfl, rfl, by decide +kernel, rfl, by decide +kernel, by decide +kernel⟩
theorem mod7 {x b : Int} (hb : 0 < b) : 0 ≤ x % b ∧ x % b < b := ⟨Int.emod_nonneg _ (by omega), Int.emod_lt_of_pos _ hb⟩
theorem wb {b : Int} (h0 : 0 < b) (h1 : b < 2 ^ 60) : CDivW 0 b := wide_div (b := 60) h0 (by omega) (by decide) (by decide)
theorem ok_take {f : Addr} {fd : FuncData} (F : Fun K "_law_take" "_law_take" sTake f fd) (T : Blt mg) : FnOk P w K mg base CX0 1 f fd ["_law_pen_here", "_law_bound"] spTake := by
  refine F.ok scT (fun vs H Q E h => ?_) (fun cdv A outer s H vs Q E hr h => ?_)
  · obtain ⟨p, c, ns, a, r, d, m, t, b, rfl, _⟩ := h
    rfl
  · obtain ⟨p, c, ns, a, r, d, m, t, b, rfl, S, hb, hb2, k⟩ := h
    have hu := hu_of hr
    -- the two ends: what is left of a number, and the mixing alone
    obtain ⟨tC, hC, qC⟩ : ∃ t, PSs (cxOf CX0 P w K mg base ["_law_pen_here", "_law_bound", "_law_cell", "_law_mixed", "_law_digit"] "_law_take" (defScope sTake) f cdv A outer s H E).nox ((defBody sTake).drop 2) t ∧
        ∀ (v2 v3 v4 : Option V) (a r d m t' : Int), 0 ≤ a → 0 ≤ m → m < 2147483647 → t { nx := fun _ H' => Q .non H', rt := Q } [some (.ref p), some (.int b), v2, v3, v4] (upd H p (.dK (penD c a r d m t'))) := by
      refine ⟨_, pss_cons (ps_if (pt_cmpR op_gt (pe_dget hu (pv 0) pe_str (fun _ _ => rfl)) pe_int (nomark _))
        (pss_cons (ps_dput hu (pv 0) pe_str (pe_op op_sub (pe_dget hu (pv 0) pe_str (fun _ _ => rfl)) pe_int) rfl)
        (pss_cons (ps_set (i := 4) scT.nd rfl (.inl rfl) (pe_op op_mod (pe_callTy call_int1 (by rfl) T.int PyProof.Rows.boot_int (pa_cons (pe_dget hu (pv 0) pe_str (fun _ _ => rfl)) pa_nil)) (pv 1)))
        (pss_cons (ps_dput hu (pv 0) pe_str (pe_op op_fdivW (pe_dget hu (pv 0) pe_str (fun _ _ => rfl)) (pv 1)) rfl)
        (pss_one (ps_ret (pv 4))))))
        pss_nil)
        (pss_cons (ps_dput hu (pv 0) pe_str (pe_op op_mod (pe_callTy call_int1 (by rfl) T.int PyProof.Rows.boot_int (pa_cons (pe_op op_add (pe_op op_add (pe_op op_mul (pe_dget hu (pv 0) pe_str (fun _ _ => rfl)) pe_int) (pe_op op_mul (pe_dget hu (pv 0) pe_str (fun _ _ => rfl)) pe_int)) pe_int) pa_nil)) pe_int) rfl)
        (pss_one (ps_ret (pe_op op_mod (pe_op op_fdiv (pe_op op_mod (pe_callTy call_int1 (by rfl) T.int PyProof.Rows.boot_int (pa_cons (pe_op op_add (pe_op op_mul (pe_dget hu (pv 0) pe_str (fun _ _ => rfl)) (pe_dget hu (pv 0) pe_str (fun _ _ => rfl))) (pe_dget hu (pv 0) pe_str (fun _ _ => rfl))) pa_nil)) pe_int) pe_int) (pv 1))))), ?_⟩
      intro v2 v3 v4 a r d m t' ha hm hm2
      refine ⟨_, rfl, p, _, rfl, gq_digits, _, _, rfl, rfl, _, rfl, ?_⟩
      refine ite2 (fun _ => ?_) (fun _ => ?_)
      · refine ⟨_, rfl, p, _, rfl, gq_digits, _, _, rfl, rfl, _, rfl, p, _, rfl, pq_digits, ?_⟩
        refine ⟨_, rfl, p, _, rfl, gq_rest, .inl ⟨_, rfl, _, rfl, _, _, rfl, rfl, hb, ?_⟩⟩
        refine ⟨_, rfl, p, _, rfl, gq_rest, _, rfl, _, _, rfl, rfl, wide_div (b := 60) hb (by omega) (by decide) (by decide), _, rfl, p, _, rfl, pq_rest, ?_⟩
        refine ⟨_, rfl, ?_⟩
        exact k _ _ _ _ _ _ (mod7 hb).1 (mod7 hb).2 ha hm hm2
      · refine ⟨_, rfl, p, _, rfl, gq_mix, _, _, rfl, rfl, .inr (by decide), _, rfl, p, _, rfl, gq_turn, _, _, rfl, rfl, .inr (by decide), _, _, rfl, rfl, _, _, rfl, rfl, .inl ⟨_, rfl, _, _, rfl, rfl, (by show (0 : Int) < 2147483647; decide), _, rfl, p, _, rfl, pq_mix, ?_⟩⟩
        have q1 := mod7 (x := m * 69621 + t' * 16807 + 5) (b := 2147483647) (by decide)
        refine ⟨_, rfl, p, _, rfl, gq_mix, _, rfl, p, _, rfl, gq_mix, _, _, rfl, rfl, .inl ⟨by omega, by omega⟩, _, rfl, p, _, rfl, gq_turn, _, _, rfl, rfl, .inl ⟨_, rfl, _, _, rfl, rfl, (by show (0 : Int) < 2147483579; decide), _, _, rfl, rfl, ⟨by decide, by decide⟩, _, rfl, _, _, rfl, rfl, hb, ?_⟩⟩
        exact k _ _ _ _ _ _ (mod7 hb).1 (mod7 hb).2 ha q1.1 q1.2
    refine ⟨_, pss_cons (ps_dput hu (pv 0) pe_str (pe_op op_add (pe_dget hu (pv 0) pe_str (fun _ _ => rfl)) pe_int) rfl)
      (pss_cons (ps_if (PW.pt (pw_and (pt_cmpR op_eq (pe_dget hu (pv 0) pe_str (fun _ _ => rfl)) pe_int (nomark _))
          (pw_and1 (pt_cmpR op_lt (pe_dget hu (pv 0) pe_str (fun _ _ => rfl)) (pe_callB call_len_seq (by rfl) T.len PySem.boot_len (pa_cons (pe_dget hu (pv 0) pe_str (fun _ _ => rfl)) pa_nil)) (nomark _)))))
        (pss_cons (ps_set (i := 2) scT.nd rfl (.inl rfl) (pe_ix ix_list (pe_dget hu (pv 0) pe_str (fun _ _ => rfl)) (pe_dget hu (pv 0) pe_str (fun _ _ => rfl)) (fun _ _ => rfl)))
        (pss_cons (ps_dput hu (pv 0) pe_str (pe_op op_add (pe_dget hu (pv 0) pe_str (fun _ _ => rfl)) pe_int) rfl)
        (pss_cons (ps_if (pt_cmpR op_lt (pv 2) (pe_op op_pow pe_int pe_int) (nomark _))
          (pss_cons (ps_set (i := 3) scT.nd rfl (.inl rfl) (pe_op op_mod (pe_callTy call_int1 (by rfl) T.int PyProof.Rows.boot_int (pa_cons (pe_op op_add (pe_op op_add (pe_op op_mul (pe_op op_mod (pe_callTy call_int1 (by rfl) T.int PyProof.Rows.boot_int (pa_cons (pv 2) pa_nil)) pe_int) pe_int) (pe_dget hu (pv 0) pe_str (fun _ _ => rfl))) (pe_op op_mul (pe_dget hu (pv 0) pe_str (fun _ _ => rfl)) pe_int)) pa_nil)) pe_int))
          (pss_cons (ps_dput hu (pv 0) pe_str (pe_op op_mod (pe_callTy call_int1 (by rfl) T.int PyProof.Rows.boot_int (pa_cons (pe_op op_add (pe_op op_add (pe_op op_mul (pe_dget hu (pv 0) pe_str (fun _ _ => rfl)) pe_int) (pv 3)) pe_int) pa_nil)) pe_int) rfl)
          (pss_one (ps_ret (pe_op op_mod (pe_op op_fdiv (pe_op op_mod (pe_callTy call_int1 (by rfl) T.int PyProof.Rows.boot_int (pa_cons (pe_op op_add (pe_op op_mul (pv 3) (pv 3)) (pe_dget hu (pv 0) pe_str (fun _ _ => rfl))) pa_nil)) pe_int) pe_int) (pv 1))))))
          pss_nil)
        (pss_cons (ps_dput hu (pv 0) pe_str (pe_op op_sub (pv 2) (pe_op op_pow pe_int pe_int)) rfl)
        (pss_one (ps_dput hu (pv 0) pe_str pe_int rfl))))))
        pss_nil)
      hC), ?_⟩
    have hc2 : ∀ {a r d m t : Int}, upd H p (.dK (penD c a r d m t)) c = some (.lst (ns.map V.int)) := by
      intro a r d m t
      rw [upd_ne S.ne]
      exact S.cl
    have e0 : H = upd H p (.dK (penD c a r d m t)) := (upd_id S.pd).symm
    rw [e0]
    refine ⟨_, rfl, p, _, rfl, gq_turn, _, _, rfl, rfl, _, rfl, p, _, rfl, pq_turn, ?_⟩
    refine ⟨_, rfl, p, _, rfl, gq_digits, rfl, _, rfl, ?_⟩
    refine ite2 (fun _ => ?_) (fun _ => ?_)
    · refine ⟨_, rfl, p, _, rfl, gq_at, _, rfl, p, _, rfl, gq_cells, c, _, rfl, .inl (SqL.of hc2), _, _, rfl, rfl, _, rfl, ?_⟩
      refine ite2 (fun hlt => ?_) (fun _ => ?_)
      · have hlt := of_decide_eq_true hlt
        rw [List.length_map] at hlt
        obtain ⟨j, rfl⟩ := Int.eq_ofNat_of_zero_le S.a0
        have hj : j < ns.length := by omega
        have hx : (ns.map V.int)[j]? = some (V.int ns[j]) := by
          rw [List.getElem?_map, List.getElem?_eq_getElem hj]
          rfl
        refine ⟨_, rfl, p, _, rfl, gq_cells, _, rfl, p, _, rfl, gq_at, c, _, _, _, rfl, rfl, SqL.of hc2, atI_nat hx, ?_⟩
        refine ⟨_, rfl, p, _, rfl, gq_at, _, _, rfl, rfl, _, rfl, p, _, rfl, pq_at, ?_⟩
        refine ⟨_, rfl, _, _, rfl, rfl, ⟨by decide, by decide, by decide⟩, _, _, rfl, rfl, _, rfl, ?_⟩
        have a1 : (0 : Int) ≤ (j : Int) + 1 := by omega
        refine ite2 (fun _ => ?_) (fun _ => ?_)
        · refine ⟨_, rfl, .inl ⟨_, rfl, _, _, rfl, rfl, (by show (0 : Int) < 2147483587; decide), _, _, rfl, rfl, .inr (by decide), ?_⟩⟩
          refine ⟨_, rfl, p, _, rfl, gq_mix, _, _, rfl, rfl, _, rfl, p, _, rfl, gq_turn, _, _, rfl, rfl, .inr (by decide), _, _, rfl, rfl, .inl ⟨_, rfl, _, _, rfl, rfl, (by show (0 : Int) < 2147483647; decide), ?_⟩⟩
          have q1 := mod7 (x := ns[j] % 2147483587 * 69621 + m + (t + 1) * 40692) (b := 2147483647) (by decide)
          refine ⟨_, rfl, p, _, rfl, gq_mix, _, _, rfl, rfl, .inr (by decide), _, rfl, _, _, rfl, rfl, _, _, rfl, rfl, .inl ⟨_, rfl, _, _, rfl, rfl, (by show (0 : Int) < 2147483587; decide), _, rfl, p, _, rfl, pq_mix, ?_⟩⟩
          have q2 := mod7 (x := m * 16807 + (ns[j] % 2147483587 * 69621 + m + (t + 1) * 40692) % 2147483647 + 13) (b := 2147483587) (by decide)
          refine ⟨_, rfl, _, rfl, _, _, rfl, rfl, .inl ⟨by omega, by omega⟩, _, rfl, p, _, rfl, gq_mix, _, _, rfl, rfl, .inl ⟨_, rfl, _, _, rfl, rfl, (by show (0 : Int) < 2147483563; decide), _, _, rfl, rfl, ⟨by decide, by decide⟩, _, rfl, _, _, rfl, rfl, hb, ?_⟩⟩
          exact k _ _ _ _ _ _ (mod7 hb).1 (mod7 hb).2 a1 q2.1 (by omega)
        · refine ⟨_, rfl, _, _, rfl, rfl, ⟨by decide, by decide, by decide⟩, _, _, rfl, rfl, _, rfl, p, _, rfl, pq_rest, ?_⟩
          refine ⟨_, rfl, p, _, rfl, pq_digits, ?_⟩
          exact qC _ _ _ _ _ _ _ _ a1 S.m0 S.m1
      · exact qC _ _ _ _ _ _ _ _ S.a0 S.m0 S.m1
    · exact qC _ _ _ _ _ _ _ _ S.a0 S.m0 S.m1
end
end Wp
set_option Elab.async false
set_option linter.all false
set_option maxRecDepth 100000
set_option maxHeartbeats 4000000
namespace Wp
open PySem L2
/-! ## one of a menu; the pen made; a plain value -/
theorem SqL.over {K : PySem.W.Frag} {H : Hp} {p q : Addr} {xs : List V} {kvs kvs' : List (Key × V)} (h : SqL K H q xs) (hp : H p = some (.dK kvs)) : SqL K (upd H p (.dK kvs')) q xs := by
  have key : ∀ o, H q = some o → (∀ l, o ≠ .dK l) → upd H p (.dK kvs') q = some o := fun o e n => by
    rw [upd_ne (fun z => by rw [z, hp] at e; exact n kvs (Option.some.inj e).symm)]
    exact e
  rcases h with (h | ⟨o, h⟩) | h
  · exact .inl (.inl (key _ h fun l z => by cases z))
  · exact .inl (.inr ⟨o, key _ h fun l z => by cases z⟩)
  · exact .inr h
def spOne (K : PySem.W.Frag) : Sp := fun vs H Q _ => ∃ (p c q : Addr) (ns : List Int) (a r d m t : Int) (xs : List V), vs = [.ref p, .ref q] ∧ PenAt H p c ns a r d m t ∧ SqL K H q xs ∧ 0 < xs.length ∧ xs.length ≤ 1000 ∧
  ∀ (x : V) (a' r' d' m' t' : Int), x ∈ xs → 0 ≤ a' → 0 ≤ m' → m' < 2147483647 → Q x (upd H p (.dK (penD c a' r' d' m' t')))
section
variable {P : Program} {w : World} {K : PySem.W.Frag} {mg : Str → Option Value} {base : Heap}
theorem scO : FnScope ["_law_pen_here", "_law_menu"] ["_law_pen_here", "_law_menu"] (defScope sOne) := ⟨rfl, rfl, rfl, by decide +kernel, rfl, by decide +kernel, by decide +kernel⟩
theorem ok_one {f fT : Addr} {fd fdT : FuncData} (F : Fun K "_law_one_of" "_law_one_of" sOne f fd) (T : Blt mg) (GT : FnOk P w K mg base CX0 1 fT fdT ["_law_pen_here", "_law_bound"] spTake) (bT : Binds K fdT ["_law_pen_here", "_law_bound"] [])
    (mT : mg "_law_take" = some (.ref fT)) (kT : PySem.W.keepIn K (.ref fT) = true) : FnOk P w K mg base CX0 2 f fd ["_law_pen_here", "_law_menu"] (spOne K) := by
  refine F.ok scO (fun vs H Q E h => ?_) (fun cdv A outer s H vs Q E hr h => ?_)
  · obtain ⟨p, c, q, ns, a, r, d, m, t, xs, rfl, _⟩ := h
    rfl
  · obtain ⟨p, c, q, ns, a, r, d, m, t, xs, rfl, S, hq, h0, h1, k⟩ := h
    refine ⟨_, pss_one (ps_ret (pe_ix ix_list (pv 1) (pe_call GT (hr.mono (by decide)) rfl mT kT bT .nil pass0 (pa_cons (pv 0) (pa_cons (pe_callB call_len_seq (by rfl) T.len PySem.boot_len (pa_cons (pv 1) pa_nil)) pa_nil))) (fun _ _ => rfl))), ?_⟩
    refine ⟨_, rfl, _, rfl, _, rfl, q, _, rfl, .inl hq, p, c, ns, a, r, d, m, t, (xs.length : Int), rfl, S, by omega, by omega, fun v a' r' d' m' t' v0 v1 ha hm hm2 => ?_⟩
    obtain ⟨j, rfl⟩ := Int.eq_ofNat_of_zero_le v0
    have hj : j < xs.length := by omega
    have hx : xs[j]? = some xs[j] := List.getElem?_eq_getElem hj
    exact ⟨q, _, _, _, rfl, rfl, SqL.over hq S.pd, atI_nat hx, k _ _ _ _ _ _ (List.getElem_mem hj) ha hm hm2⟩
def spPen (K : PySem.W.Frag) : Sp := fun vs H Q _ => ∃ (s : Addr) (ns : List Int), vs = [.ref s] ∧ SqL K H s (ns.map V.int) ∧ ns.length ≤ 63 ∧
  ∀ (p c : Addr) (H' : Hp) (m : Int), Same H H' → H p = none → H c = none → PenAt H' p c ns 0 0 0 m 0 → Q (.ref p) H'
theorem scP : FnScope ["_law_script", "_law_total", "_law_cell"] ["_law_script"] (defScope sPen) := ⟨rfl, rfl, rfl, by decide +kernel, rfl, by decide +kernel, by decide +kernel⟩
theorem pen_made {c : Addr} {m : Int} : mergeK [] ([(Sum.inr "cells", .ref c), (Sum.inr "at", .int 0), (Sum.inr "rest", .int 0), (Sum.inr "digits", .int 0), (Sum.inr "mix", .int m), (Sum.inr "turn", .int 0)] : List (Key × V)) = penD c 0 0 0 m 0 := by
  simp [mergeK, putK, penD, n1, n2, n3, n4, n5, n6, n7, n8, n9, n10, n11, n12, n13, n14, n15]
theorem ok_pen {f : Addr} {fd : FuncData} (F : Fun K "_law_pen" "_law_pen" sPen f fd) (T : Blt mg) : FnOk P w K mg base CX0 1 f fd ["_law_script"] (spPen K) := by
  refine F.ok scP (fun vs H Q E h => ?_) (fun cdv A outer s H vs Q E hr h => ?_)
  · obtain ⟨a, ns, rfl, _⟩ := h
    rfl
  · obtain ⟨a, ns, rfl, hS, hl, k⟩ := h
    refine ⟨_, pss_cons (ps_set (i := 1) scP.nd rfl (.inl rfl) pe_int)
      (pss_cons (ps_for PassesOwn.never rfl (pi_list (pv 0)) (pg_name (i := 2) scP.nd rfl (.inl rfl))
        (pss_one (ps_set (i := 1) scP.nd rfl (.inl rfl) (pe_op op_mod (pe_callTy call_int1 (by rfl) T.int PyProof.Rows.boot_int (pa_cons (pe_op op_add (pe_op op_mul (pv 1) pe_int) (pv 2)) pa_nil)) pe_int))))
      (pss_one (ps_ret (pe_disp (pps_cons pe_str (pe_callTy call_list_of (by rfl) T.list PyProof.Rows.boot_list (pa_cons (pv 0) pa_nil)) (pps_cons pe_str pe_int (pps_cons pe_str pe_int (pps_cons pe_str pe_int (pps_cons pe_str (pv 1) (pps_cons pe_str pe_int pps_nil)))))) rfl rfl (by simp) (by decide))))), ?_⟩
    refine ⟨_, rfl, a, rfl, ⟨_, hS⟩, for_list (K := K) (a := a) (xs := ns.map V.int) (fun i σ H2 => H2 = H ∧ ∃ (z : Int) (v : Option V), σ = [some (.ref a), some (.int z), v] ∧ 0 ≤ z ∧ z < 2147483647)
      ⟨rfl, 29, none, rfl, by decide, by decide⟩ (fun i σ H2 _ ⟨e, _⟩ => by rw [e]; exact hS) ?_ ?_⟩
    · rintro i y σ H2 hi ⟨rfl, z, v, rfl, z0, z1⟩
      obtain ⟨x, hx, rfl⟩ : ∃ x, ns[i]? = some x ∧ y = V.int x := by
        rw [List.getElem?_map] at hi
        cases e : ns[i]? with
        | none =>
          rw [e] at hi
          cases hi
        | some x =>
          rw [e] at hi
          exact ⟨x, rfl, (Option.some.inj hi).symm⟩
      refine ⟨_, rfl, _, _, rfl, rfl, .inr (by decide), _, rfl, _, _, rfl, rfl, .inl ⟨_, rfl, _, _, rfl, rfl, (by show (0 : Int) < 2147483587; decide), ?_⟩⟩
      have q := mod7 (x := z * 48271 + x) (b := 2147483587) (by decide)
      exact ⟨rfl, _, _, rfl, q.1, by omega⟩
    · rintro σ H2 ⟨rfl, z, v, rfl, z0, z1⟩
      intro p hp
      have hSp : SqL K (upd H2 p (.dK [])) a (ns.map V.int) := (show Same H2 (upd H2 p (.dK [])) from fun b o e => by rw [upd_ne (ne_of_none e hp)]; exact e).seq hS
      refine ⟨_, rfl, a, _, rfl, .inl hSp, fun l hl' => ?_⟩
      have hlp : l ≠ p := fun e => by rw [e, upd_same] at hl'; cases hl'
      have hlH : H2 l = none := by rw [upd_ne hlp] at hl'; exact hl'
      refine ⟨_, rfl, by rw [upd_ne (Ne.symm hlp)]; exact upd_same, [(Sum.inr "cells", .ref l), (Sum.inr "at", .int 0), (Sum.inr "rest", .int 0), (Sum.inr "digits", .int 0), (Sum.inr "mix", .int z), (Sum.inr "turn", .int 0)], rfl, (by show 6 ≤ 15; decide), ?_⟩
      rw [pen_made]
      refine k p l _ _ (fun b o e => ?_) hp hlH ⟨upd_same, ?_, by decide, z0, z1⟩
      · rw [upd_ne (ne_of_none e hp), upd_ne (ne_of_none e hlH), upd_ne (ne_of_none e hp)]
        exact e
      · rw [upd_ne hlp]
        exact upd_same
end
end Wp
set_option Elab.async false
set_option linter.all false
set_option maxRecDepth 100000
set_option maxHeartbeats 4000000
/-! A set made of any number of texts: how many there are. -/
namespace Wp.TS
open PySem PySem.Spec PyProof.Rows
/-- one text more -/
def one (σ : List Str) (x : Str) : List Str := if x ∈ σ then σ else σ ++ [x]
/-- each text once -/
def once (xs : List Str) : List Str := xs.foldl one []
theorem once_snoc (xs : List Str) (x : Str) : once (xs ++ [x]) = one (once xs) x := by simp [once, List.foldl_append]
theorem one_mem {σ : List Str} {x y : Str} : y ∈ one σ x ↔ y ∈ σ ∨ y = x := by
  unfold one
  split
  · next h => exact ⟨.inl, fun z => z.elim id fun e => e ▸ h⟩
  · simp
theorem once_from (xs : List Str) : ∀ σ, (xs.foldl one σ).length ≤ σ.length + xs.length := by
  induction xs with
  | nil => intro σ; simp
  | cons x xs ih =>
    intro σ
    have a := ih (one σ x)
    have b : (one σ x).length ≤ σ.length + 1 := by unfold one; split <;> simp
    simp only [List.foldl_cons, List.length_cons]
    omega
theorem once_le (xs : List Str) : (once xs).length ≤ xs.length := by
  have := once_from xs []
  simpa [once] using this
theorem once_mem (xs : List Str) (y : Str) : y ∈ once xs ↔ y ∈ xs := by
  have key : ∀ (xs σ : List Str), y ∈ xs.foldl one σ ↔ y ∈ σ ∨ y ∈ xs := by
    intro xs
    induction xs with
    | nil => intro σ; simp
    | cons x xs ih =>
      intro σ
      rw [List.foldl_cons, ih, one_mem, List.mem_cons, or_assoc]
  have := key xs []
  simpa [once] using this
/-- as many as before, exactly if no text stands twice -/
theorem once_len (xs : List Str) : (once xs).length = xs.length ↔ xs.Nodup := by
  have key : ∀ (xs σ : List Str), σ.Nodup → ((xs.foldl one σ).length = σ.length + xs.length ↔ (σ ++ xs).Nodup) := by
    intro xs
    induction xs with
    | nil => intro σ h; simp [h]
    | cons x xs ih =>
      intro σ h
      rw [List.foldl_cons]
      by_cases e : x ∈ σ
      · have o : one σ x = σ := if_pos e
        rw [o]
        have b := once_from xs σ
        constructor
        · intro q
          simp only [List.length_cons] at q
          omega
        · intro q
          rw [List.nodup_append] at q
          exact absurd rfl (q.2.2 x e x List.mem_cons_self)
      · have o : one σ x = σ ++ [x] := if_neg e
        rw [o]
        have n : (σ ++ [x]).Nodup := by
          rw [List.nodup_append]
          refine ⟨h, by simp, fun a ha b hb z => ?_⟩
          rw [List.mem_singleton] at hb
          exact e (hb ▸ z ▸ ha)
        have q := ih (σ ++ [x]) n
        rw [List.append_assoc] at q
        simp only [List.length_append, List.length_cons, List.length_nil] at q ⊢
        rw [← List.singleton_append (l := xs)]
        rw [← q]
        omega
  have := key xs [] List.nodup_nil
  simpa [once] using this
section
variable {prog : Program} {w : World} {A : Around} {R : Result → Shared → Prop} {I S : Addr} {fp wr : List Addr} {G : Array GenState → Array GenState → Prop} {n : Nat} {P : Nat → Value → Prop} {St : Nat → Shared → Prop}
/-- the set at S holds these texts, each once -/
abbrev Holds (prog : Program) (w : World) (h : Heap) (S : Addr) (xs : List Str) : Prop := h.SetOf (PySem.strKind prog w) S (fun y => decide (y ∈ once xs)) (once xs).length
theorem Holds.at {h h' : Heap} {xs : List Str} (q : Holds prog w h S xs) (k : ∀ o, h.get? S = some o → h'.get? S = some o) : Holds prog w h' S xs := by
  obtain ⟨o, es, ep, t, ho, q⟩ := q
  exact ⟨o, es, ep, t, k o ho, q⟩
theorem upd_loop (W : WalksS prog w A.in1 I fp wr G n P St) (off : S ∉ fp) (xs : List Str) (few : xs.length + 1 < scanBound) (len : xs.length = n) (txt : ∀ i v, P i v → ∃ x t, xs[i]? = some x ∧ v = .str x t) :
    ∀ (m i : Nat) (s : Shared), i + m = n → St i s → Holds prog w s.heap S (xs.take i) →
      (∀ s', Moved (S :: wr) G s s' → Holds prog w s'.heap S xs → R (.ok (.ret .none)) s') → codeAny (model prog w) A (.builtin "set.update.loop" ⟨[.ref S, .ref I], []⟩) R s
  | 0, i, s, hm, st, hS, end_ => by
    obtain rfl : i = n := hm
    have out : S ∉ wr := fun z => off (W.sub _ z)
    apply codeAny_builtin F.entry_set_update_loop
    rw [Around.under_plainId F.plain_set_update_loop]
    apply wpAny_bind (m := pyNext (.ref I))
    refine W.done s _ _ st fun s' mv => ?_
    have q := hS.at fun o e => mv.heap S o out e
    rw [List.take_of_length_le (Nat.le_of_eq len)] at q
    exact wpAny_pure (end_ s' (mv.mono fun b hb => .tail _ hb) q)
  | m + 1, i, s, hm, st, hS, end_ => by
    have out : S ∉ wr := fun z => off (W.sub _ z)
    apply codeAny_builtin F.entry_set_update_loop
    rw [Around.under_plainId F.plain_set_update_loop]
    apply wpAny_bind (m := pyNext (.ref I))
    refine W.item i s _ _ (by omega) st fun v s' pv st' mv => ?_
    obtain ⟨x, t, hx, rfl⟩ := txt i v pv
    have at_ := hS.at fun o e => mv.heap S o out e
    have tk : xs.take (i + 1) = xs.take i ++ [x] := by rw [List.take_add_one, hx]; rfl
    have lt : (once (xs.take i)).length + 1 < scanBound := by
      have a := once_le (xs.take i)
      have b : (xs.take i).length ≤ xs.length := List.length_take_le' _ _
      omega
    apply wpAny_bind (m := holding [Value.str x t] (setAdd S (.str x t)))
    apply wpAny_holding
    unfold setAdd
    apply wpAny_holding
    apply wpAny_bind
    apply (PySem.strKind prog w).pyHash (k := x) (strKind_is _ _ _ _)
    refine wpAny_setAddHashed_of (knd := PySem.strKind prog w) (k := x) (s := { s' with toks := s'.toks + 1 }) (strKind_is _ _ _ _) rfl at_ lt fun h2 but set2 => ?_
    have next : Holds prog w h2 S (xs.take (i + 1)) := by
      unfold Holds
      rw [tk, once_snoc]
      refine SetOf_congr set2 (fun y => ?_) ?_
      · rw [Bool.eq_iff_iff]
        simp only [Bool.or_eq_true, decide_eq_true_eq]
        exact one_mem.symm
      · unfold one
        by_cases e : x ∈ once (xs.take i) <;> simp [e]
    refine wpAny_pure ⟨plainId_quiet F.plain_set_update_loop _, upd_loop W off xs few len txt m (i + 1) _ (by omega) ?_ next fun s3 mv3 q3 => end_ s3 ?_ q3⟩
    · exact W.frame _ s' _ _ st' (Nat.le_succ _) fun b hb o e => (but.2 b fun z => off (z ▸ hb)).trans e
    · exact ((mv.mono fun b hb => List.mem_cons_of_mem S hb).then_heap (Nat.le_succ _) fun b o hb e => (but.2 b fun z => hb (z ▸ List.mem_cons_self)).trans e).trans W.gtrans mv3
end
end Wp.TS
set_option Elab.async false
set_option linter.all false
set_option maxRecDepth 100000
set_option maxHeartbeats 4000000
namespace Wp.TS
open PySem PySem.Spec PyProof.Rows
/-- a list or tuple of texts, as the object at l -/
structure Row (h : Heap) (ty : String) (l : Addr) (us : Array Value) : Prop where
  kind : ty = "list" ∨ ty = "tuple"
  obj : ∃ o n, h.get? l = some o ∧ o.cls = .type ty ∧ o.data = .seq us n
section
variable {prog : Program} {w : World} {A : Around} {E : Value → Shared → Prop} {s : Shared}
def setObj (led : Bool) : Obj := { cls := .type "set", dict := none, data := .set #[] 0 (.fresh 0 0 led) }
theorem Row.push {h : Heap} {ty : String} {l : Addr} {us : Array Value} (r : Row h ty l us) (o : Obj) : Row (h.push o) ty l us := by
  obtain ⟨k, u, n, a, b, c⟩ := r
  exact ⟨k, u, n, Heap.get?_push_of_some _ a, b, c⟩
theorem Row.lt {h : Heap} {ty : String} {l : Addr} {us : Array Value} (r : Row h ty l us) : l < h.objs.size := by
  obtain ⟨k, u, n, a, b, c⟩ := r
  exact Heap.lt_size a
/-- what its iterator does -/
theorem Row.iter {B : Around} {ty : String} {l : Addr} {us : Array Value} (r : Row s.heap ty l us) (hh : B.handled = none) {Q : Value → Shared → Prop}
    (k : ∀ (it : Obj) (St : Nat → Heap → Prop), St 0 (s.heap.push it) → Walks prog w B s.heap.objs.size [s.heap.objs.size, l] [s.heap.objs.size] us.size (fun i v => us[i]? = some v) St →
      Q (.ref s.heap.objs.size) { s with heap := s.heap.push it }) : wpAny (model prog w) A (pyIter (.ref l)) Q E s := by
  have ne : l ≠ s.heap.objs.size := Nat.ne_of_lt r.lt
  obtain ⟨kd, o, n, a, b, c⟩ := r
  rcases kd with rfl | rfl
  · have q : s.heap.IsList l us := ⟨o, a, b, n, c⟩
    exact wpAny_pyIter_list q (k _ _ ⟨⟨_, Heap.get?_push_size _ rfl, rfl, rfl⟩, q.push _⟩ (Walks.list hh _ l ne us))
  · have q : s.heap.IsTuple l us := ⟨o, a, b, n, c⟩
    exact wpAny_pyIter_tuple q (k _ _ ⟨⟨_, Heap.get?_push_size _ rfl, rfl, rfl⟩, q.push _⟩ (Walks.tuple hh _ l ne us))
/-- the new set, filled -/
theorem set_fill {ty : String} {l S : Addr} {us : Array Value} {xs : List Str} (hh : A.handled = none) (r : Row s.heap ty l us) (ht : StrsAre us.toList xs) (few : xs.length + 1 < scanBound) {led : Bool}
    (ho : s.heap.get? S = some (setObj led)) (ne : S ≠ l) {Q : Value → Shared → Prop}
    (k : ∀ (h' : Heap) (tk : Nat), Holds prog w h' S xs → (∀ b o, b ≠ S → s.heap.get? b = some o → h'.get? b = some o) → Q .none { s with heap := h', toks := tk }) :
    wpAny (model prog w) A (pyIter (.ref l)) (fun it s1 => wpAny (model prog w) A (runValue (.builtin "set.update.loop" ⟨[.ref S, it], []⟩)) (fun _ s2 => Q .none s2) E s1) E s := by
  refine r.iter (B := A.in1) hh fun it St st wk => ?_
  refine wpAny_runValue ?_
  have lt : S < s.heap.objs.size := Heap.lt_size ho
  have off : S ∉ [s.heap.objs.size, l] := by
    simp only [List.mem_cons, List.not_mem_nil, or_false, not_or]
    exact ⟨Nat.ne_of_lt lt, ne⟩
  have sz : xs.length = us.size := by rw [← StrsAre.len_eq ht, Array.length_toList]
  refine upd_loop wk.toS off xs few sz (fun i v e => ?_) us.size 0 _ (Nat.zero_add _) st ?_ ?_
  · have hi : i < us.size := (Array.getElem?_eq_some_iff.mp e).1
    obtain ⟨t, q⟩ := SS.strs_at ht i v (by rw [Array.getElem?_toList]; exact e)
    have hx : i < xs.length := by omega
    exact ⟨xs[i], t, List.getElem?_eq_getElem hx, by rw [q, List.getD_eq_getElem?_getD, List.getElem?_eq_getElem hx]; rfl⟩
  · exact SetOf_congr ((setObjOf_fresh (knd := PySem.strKind prog w) led).setOf (Heap.get?_push_of_some it ho) (by unfold scanBound; omega)) (fun _ => rfl) rfl
  · rintro ⟨h1, g1, d1, t1, o1⟩ mv q
    obtain rfl : g1 = s.gens := mv.gens
    obtain rfl : d1 = s.drawn := mv.drawn
    obtain rfl : o1 = s.os := mv.os
    refine k h1 t1 q fun b o nb e => mv.heap b o ?_ (Heap.get?_push_of_some it e)
    simp only [List.mem_cons, List.not_mem_nil, or_false, not_or]
    exact ⟨nb, Nat.ne_of_lt (Heap.lt_size e)⟩
end
end Wp.TS
set_option Elab.async false
set_option linter.all false
set_option maxRecDepth 100000
set_option maxHeartbeats 4000000
namespace Wp.TS
open PySem PySem.Spec PyProof.Rows
section
variable {prog : Program} {w : World} {A : Around} {E : Value → Shared → Prop} {s : Shared}
theorem no_set {ty : String} (k : ty = "list" ∨ ty = "tuple") : isSubtype (.type ty) (.type "set") = pure false := by
  rcases k with rfl | rfl
  · exact PySem.F.sub_list_set
  · exact PySem.F.sub_tuple_set
theorem no_frozen {ty : String} (k : ty = "list" ∨ ty = "tuple") : isSubtype (.type ty) (.type "frozenset") = pure false := by
  rcases k with rfl | rfl
  · exact PySem.F.sub_list_frozenset
  · exact PySem.F.sub_tuple_frozenset
theorem no_dict {ty : String} (k : ty = "list" ∨ ty = "tuple") : (Value.type ty == Value.type "dict") = false := by
  rcases k with rfl | rfl <;> decide
theorem set_init {ty : String} {l S : Addr} {us : Array Value} {xs : List Str} (hh : A.handled = none) (r : Row s.heap ty l us) (ht : StrsAre us.toList xs) (few : xs.length + 1 < scanBound) {led : Bool}
    (ho : s.heap.get? S = some (setObj led)) (ne : S ≠ l) {Q : Value → Shared → Prop}
    (k : ∀ (h' : Heap) (tk : Nat), Holds prog w h' S xs → (∀ b o, b ≠ S → s.heap.get? b = some o → h'.get? b = some o) → Q .none { s with heap := h', toks := tk }) :
    wpAny (model prog w) A (Builtin.«set.__init__» ⟨[.ref S, .ref l], []⟩) (fun f s' => ∃ v, f = .done (.ret v) ∧ Q v s') E s := by
  have n1 := no_set r.kind
  have n2 := no_frozen r.kind
  have n3 := no_dict r.kind
  have hT : Shared.TypeIs s (.ref S) "set" := ⟨_, ho, rfl⟩
  obtain ⟨o, n, hl, cl, dt⟩ := r.obj
  obtain ⟨c, dd, da, sl⟩ := o
  simp only at cl dt
  subst cl
  subst dt
  have fill := set_fill (E := E) hh r ht few ho ne k
  unfold setObj at ho
  unfold Builtin.«set.__init__» noKeywords Builtin.Frozenset.updateFrom
  generalize hp : pyIter = PI at fill ⊢
  wp_walk
  refine wpAny_mono fill (fun it s1 q => ?_) fun _ _ e => e
  refine wpAny_bind (wpAny_mono q (fun _ s2 q2 => ?_) fun _ _ e => e)
  exact wpAny_pure (wpAny_pure ⟨_, rfl, q2⟩)
/-- set(xs), xs a list or tuple of texts -/
theorem set_call {ty : String} {l : Addr} {us : Array Value} {xs : List Str} (hh : A.handled = none) (r : Row s.heap ty l us) (ht : StrsAre us.toList xs) (few : xs.length + 1 < scanBound) {Q : Value → Shared → Prop}
    (k : ∀ (h' : Heap) (tk : Nat), Holds prog w h' s.heap.objs.size xs → (∀ b o, s.heap.get? b = some o → h'.get? b = some o) → Q (.ref s.heap.objs.size) { s with heap := h', toks := tk }) :
    wpAny (model prog w) A (call (.type "set") [.ref l]) Q E s := by
  have C := PySem.F.called_set
  obtain ⟨c, tl, c1⟩ := C.mro
  have c2 := C.made
  have c3 := C.sub
  have c4 := C.notType
  have c5 := C.canCreate
  have c6 := PySem.F.typeCall_set_1 (.ref l)
  have c7 := C.init.lookup
  apply wpAny_call
  apply codeAny_of_tree
  show wpAny _ _ (callAny (.type "set") _) _ _ _
  refine wpAny_pure ⟨Code.quiet_builtin _ (by decide +kernel), ?_⟩
  apply codeAny_builtin PySem.F.entry_type_call
  rw [Around.under_plain (weight_type_call_type "set" [.ref l] []) rfl]
  repeat (any_goals (first | assumption | wp_step))
  refine codeAny_mono (code_set_new_1 (.ref l) (Q₁ := fun v s1 => ∃ led, v = .ref s.heap.objs.size ∧ s1 = { s with heap := s.heap.push (setObj led) }) (E := E) fun led => ⟨led, rfl, rfl⟩) fun res s1 got => ?_
  rcases res with e | (_ | _ | _ | v) <;> first | exact got | exact got.elim | skip
  obtain ⟨led, rfl, rfl⟩ := got
  have ho : (s.heap.push (setObj led)).get? s.heap.objs.size = some (setObj led) := Heap.get?_push_size _ rfl
  have hT : Shared.TypeIs { s with heap := s.heap.push (setObj led) } (.ref s.heap.objs.size) "set" := ⟨_, ho, rfl⟩
  have c8 := C.init.bind (.ref s.heap.objs.size)
  repeat (any_goals (first | assumption | wp_step))
  refine codeAny_mono (codeAny_call_builtin (R := wants (fun v s2 => v = .none ∧ ∃ h' tk, s2 = { s with heap := h', toks := tk } ∧ Holds prog w h' s.heap.objs.size xs ∧ ∀ b o, s.heap.get? b = some o → h'.get? b = some o) E)
    C.init.plain PySem.F.entry_set_init (check_set_init_1 hT ?_)) fun res s2 got => ?_
  · refine wpAny_mono (set_init (s := { s with heap := s.heap.push (setObj led) }) (E := E) (Q := fun v s2 => v = .none ∧ ∃ h' tk, s2 = { s with heap := h', toks := tk } ∧ Holds prog w h' s.heap.objs.size xs ∧ ∀ b o, s.heap.get? b = some o → h'.get? b = some o)
      (by simp [hh]) (r.push _) ht few ho (Nat.ne_of_gt r.lt) fun h' tk q old => ⟨rfl, h', tk, rfl, q, fun b o e => old b o (Nat.ne_of_lt (Heap.lt_size e)) (Heap.get?_push_of_some _ e)⟩) (fun f s2 ⟨v, e, q⟩ => ?_) fun _ _ e => e
    rw [e]
    exact q
  · rcases res with e | (_ | _ | _ | v) <;> first | exact got | exact got.elim | skip
    obtain ⟨rfl, h', tk, rfl, q, old⟩ := got
    repeat (any_goals (first | assumption | wp_step))
    exact k h' tk q old
end
end Wp.TS
set_option Elab.async false
set_option linter.all false
set_option maxRecDepth 100000
set_option maxHeartbeats 4000000
namespace Wp
open PySem PySem.Spec PyProof.Rows L2
def tLenTxt (K : PySem.W.Frag) (ta : TE) : TE := fun σ H Q => ta σ H fun x H1 => ∃ (l : Addr) (xs : List Str), x = .ref l ∧ (SqL K H1 l (xs.map V.str) ∨ SqT K H1 l (xs.map V.str)) ∧ xs.length ≤ 4000 ∧ Q (.int ((TS.once xs).length : Nat)) H1
theorem pe_lenTxt {X : Cx} {a : Expr} {ta : TE} {p p2 q pos : Pos} (g1 : Gl X "len") (m1 : X.mg "len" = none) (g2 : Gl X "set") (m2 : X.mg "set" = none) (ha : PE X a ta) (hc : X.calm = true := by rfl)
    (na : starEach [a] X.env = (false, eval a X.env) :: starEach [] X.env := by rfl) : PE X (.Call (.Name "len" p) [.Call (.Name "set" p2) [a] [] q] [] pos) (tLenTxt X.K ta) where
  run := by
    intro pins s σ H Q I h
    apply Call_ (ld_blt I g1 m1 boot_len _)
    apply PyProof.Rows.callWith_builtin1 (PyProof.Rows.args_cons _ rfl) rfl rfl
    apply Call_ (ld_blt I g2 m2 boot_set _)
    refine PyProof.Rows.callWith_type1 (PyProof.Rows.args_cons (thn (ha.run pins s σ H _ I h) ?_) na) na rfl
    rintro v s1 ⟨x, H1, J, rv, l, xs, rfl, sq, few, k⟩
    obtain rfl := rv
    apply PyProof.Rows.args_nil
    have fin : ∀ ty (us : List Value), Vals (xs.map V.str) us → TS.Row s1.heap ty l us.toArray → wpAny (model X.prog X.w) X.A (call (.type "set") [.ref l])
        (fun r s2 => wpAny (model X.prog X.w) X.A (spliced (backTo pos (starEach [] X.env))) (fun vs s3 => wpAny (model X.prog X.w) X.A (call (.builtin "len") (r :: vs)) (EP X pins σ Q) X.xe s3) X.xe s2) X.xe s1 := by
      intro ty us rel row
      refine TS.set_call (J.ok.hd hc) row (by simpa using strsAre_of rel) (by unfold scanBound; omega) fun h' tk holds old => ?_
      apply PyProof.Rows.args_nil
      obtain ⟨o, es, ep, t, o1, o2, o3, _, _, _, o4, o5⟩ := holds
      have few2 : (TS.once xs).length ≤ 4000 := Nat.le_trans (TS.once_le xs) few
      have J2 : Inv X pins σ H1 { s1 with heap := h', toks := tk } := J.kept old
      refine call_len_set o1 o2 o3 o4 (by omega) ⟨.int ((TS.once xs).length : Nat), H1, J2.tok _, ⟨_, by rw [o5]⟩, k⟩
    rcases sq with sq | sq
    · obtain ⟨us, rel, pl, _⟩ := J.list sq
      obtain ⟨o, ho, hc1, n, hd⟩ := pl.isList
      exact fin "list" us rel ⟨.inl rfl, o, n, ho, hc1, hd⟩
    · obtain ⟨us, rel, pl, _⟩ := J.tuple sq
      obtain ⟨o, ho, hc1, n, hd⟩ := pl
      exact fin "tuple" us rel ⟨.inr rfl, o, n, ho, hc1, hd⟩
end Wp
set_option Elab.async false
set_option linter.all false
set_option maxRecDepth 100000
set_option maxHeartbeats 4000000
/-! == and != of a thing whose class has its own ==, with either answer. -/
namespace Wp
open PySem PySem.Spec PyProof.Rows L2
open PySem.W (InstAt Looks findIn isFn mroIn notFirst)
section
variable {prog : Program} {w : World} {A : Around} {E : Value → Shared → Prop} {s : Shared} {K : PySem.W.Frag} {x C L f : Addr} {h₀ : Heap} {m : Str → Option Value} {ox : Obj} {od : Option Obj} {b tb : Value}
/-- the answer turned round -/
def Turned (Q : Value → Shared → Prop) (v : Value) (s : Shared) : Prop := ∃ k, v = .bool k ∧ Q (.bool (!k)) s
theorem bound_blt {id : String} {name : Str} {T : String} {args : List Value} {Q : Option Value → Shared → Prop} (X : K.In s.heap) (I : InstAt s.heap x ox C od) (S : Slot T name id) (hs : findIn K (.ref C) name = some (some (.builtin id)))
    (h : wpAny (model prog w) A (call (.builtin id) (.ref x :: args)) (fun v => Q (some v)) E s) : wpAny (model prog w) A (callSpecialIfBound? (.ref x) name args) Q E s := by
  unfold callSpecialIfBound? bindSpecialIfBound?
  apply wpAny_holding
  apply wpAny_bind
  apply wpAny_bind
  apply wpAny_bind
  apply I.type.here
  apply (PySem.W.looks_findIn X hs).here
  apply wpAny_bind
  refine wpAny_askSetting (wpAny_ite ?_)
  have run : wpAny (model prog w) A (call (.builtin id) ([.ref x] ++ args) >>= fun v => pure (some v)) Q E s := wpAny_bind (wpAny_mono h (fun _ _ q => wpAny_pure q) fun _ _ e => e)
  split
  · exact wpAny_bind (wpAny_of_eq (S.bind _) (wpAny_pure run))
  · exact wpAny_tryCatch (wpAny_bind (wpAny_of_eq (S.bind _) (wpAny_pure run)))
theorem ne_entry {Q : Fin → Shared → Prop} (hu : A.units < cLine) (X : K.In s.heap) (I : InstAt s.heap x ox C od) (he : findIn K (.ref C) "__eq__" = some (some (.ref f))) (hf : isFn K (.ref f) = true)
    (h : wpAny (model prog w) A (call (.ref f) [.ref x, b]) (Turned fun v => Q (.done (.ret v))) E s) : wpAny (model prog w) A (Builtin.«object.__ne__» ⟨[.ref x, b], []⟩) Q E s := by
  unfold Builtin.«object.__ne__»
  have one : wpAny (model prog w) A (callSpecialIfBound? (.ref x) "__eq__" [b]) (fun r s' => ∃ k, r = some (.bool k) ∧ Q (.done (.ret (.bool (!k)))) s') E s :=
    PySem.W.ifBound_K X I he hf (wpAny_mono h (fun v s' ⟨k, e, q⟩ => ⟨k, congrArg some e, q⟩) fun _ _ e => e)
  generalize callSpecialIfBound? = CS at one ⊢
  repeat (first | with_reducible refine wpAny_cRoomFor hu ?_ | with_reducible refine wpAny_mono one (fun r s1 got => ?_) (fun _ _ e => e) | wp_step)
  obtain ⟨k, rfl, q⟩ := got
  exact wpAny_bind (wpAny_truthy_bool (wpAny_pure q))
theorem ne_call {Q : Value → Shared → Prop} (hu : A.in1.units < cLine) (X : K.In s.heap) (I : InstAt s.heap x ox C od) (top : mroIn K C (.type "object") = some true) (he : findIn K (.ref C) "__eq__" = some (some (.ref f))) (hf : isFn K (.ref f) = true)
    (h : wpAny (model prog w) A.in1 (call (.ref f) [.ref x, b]) (Turned Q) E s) : wpAny (model prog w) A (call (.builtin "object.__ne__") [.ref x, b]) Q E s := by
  apply wpAny_call
  apply codeAny_call_builtin F.cmp_object.ne.plain F.cmpEntry_ne
  exact PySem.W.check_slot F.cmpKind_ne F.cmpSplit_ne (I.type.andThen (PySem.W.looks_mroIn X top)) (F.cmpArgs_ne _ _) (ne_entry hu X I he hf h)
theorem ne_own {Q : Value → Shared → Prop} (hu : A.units + 1 < cLine) (X : K.In s.heap) (I : InstAt s.heap x ox C od) (hb : Looks (model prog w) s.heap (typeOf b) tb) (nf : notFirst K C tb = true) (top : mroIn K C (.type "object") = some true)
    (hn : findIn K (.ref C) "__ne__" = some (some (.builtin "object.__ne__"))) (he : findIn K (.ref C) "__eq__" = some (some (.ref f))) (hf : isFn K (.ref f) = true)
    (h : wpAny (model prog w) A.in1 (call (.ref f) [.ref x, b]) (Turned Q) E s) : wpAny (model prog w) A (richCompare .NotEq (.ref x) b) Q E s := by
  have try_ : wpAny (model prog w) A (tryCompare (.ref x) "__ne__" b) (fun r s' => ∃ k, r = some (.bool k) ∧ Q (.bool k) s') E s := by
    unfold tryCompare
    apply wpAny_bind
    refine bound_blt X I F.cmp_object.ne hn (ne_call (show A.units + 1 < cLine from hu) X I top he hf (wpAny_mono h ?_ fun _ _ e => e))
    rintro v s1 ⟨k, rfl, q⟩
    exact ⟨k, rfl, wpAny_pure ⟨_, rfl, q⟩⟩
  unfold richCompare
  simp only [oneThing_ref, cmpInfo_NotEq]
  apply wpAny_holding
  apply wpAny_bind
  apply wpAny_cRoomFor (by omega)
  apply wpAny_bind
  apply I.type.here
  apply wpAny_bind
  apply hb.here
  have rest : ∀ s', s' = s → wpAny (model prog w) A (tryCompare (.ref x) "__ne__" b) (fun r s' => ∃ k, r = some (.bool k) ∧ Q (.bool k) s') E s' := fun s' e => e ▸ try_
  split
  · next ne =>
    have no : PySem.W.subIn K tb (.ref C) = some false := by
      rcases Bool.or_eq_true_iff.mp nf with z | z
      · rw [beq_iff_eq.mp z] at ne
        simp at ne
      · exact beq_iff_eq.mp z
    apply wpAny_bind
    apply (PySem.W.looks_subIn X no).here
    simp only [Bool.false_eq_true, if_false]
    refine wpAny_bind (wpAny_mono try_ ?_ fun _ _ e => e)
    rintro r s1 ⟨k, rfl, q⟩
    exact wpAny_pure q
  · apply wpAny_bind
    apply wpAny_pure
    simp only [Bool.false_eq_true, if_false]
    refine wpAny_bind (wpAny_mono try_ ?_ fun _ _ e => e)
    rintro r s1 ⟨k, rfl, q⟩
    exact wpAny_pure q
end
end Wp
set_option Elab.async false
set_option linter.all false
set_option maxRecDepth 100000
set_option maxHeartbeats 4000000
namespace Wp
open PySem PySem.Spec PyProof.Rows L2
open PySem.W (InstAt Looks findIn isFn mroIn notFirst)
/-- the right side's type is none that goes first -/
inductive Second (K : PySem.W.Frag) (H : Hp) (C : Addr) : V → Prop
  | str (z : Str) : notFirst K C (.type "str") = true → Second K H C (.str z)
  | tup (q : Addr) (ys : List V) : SqT K H q ys → notFirst K C (.type "tuple") = true → Second K H C (.ref q)
  | ins (b D : Addr) (dy : Addr) (gs : List (Str × V)) : H b = some (.ins D dy gs) → notFirst K C (.ref D) = true → Second K H C (.ref b)
section
variable {X : Cx}
theorem Second.type {C : Addr} {y : V} {u : Value} {pins : List (Addr × Obj)} {σ : L2.St} {H : Hp} {s : Shared} (h : Second X.K H C y) (I : Inv X pins σ H s) (r : RelV y u) :
    ∃ tb, Looks (model X.prog X.w) s.heap (typeOf u) tb ∧ notFirst X.K C tb = true := by
  cases h with
  | str z nf =>
    obtain ⟨t, rfl⟩ := r
    exact ⟨_, Looks.of_pure rfl, nf⟩
  | tup q ys sq nf =>
    cases r
    obtain ⟨its, _, ⟨o, ho, hc, _⟩, _⟩ := I.tuple sq
    exact ⟨_, hc ▸ (Looks.ld ho).andThen .now, nf⟩
  | ins b D dy gs hb nf =>
    cases r
    obtain ⟨mA, O, _⟩ := ins_get I.hok hb
    obtain ⟨od, J, _⟩ := O.look
    exact ⟨_, J.type, nf⟩
end
/-- what `x == y` or `x != y` promises: the class's own == answers -/
def rOwn (neg : Bool) (K : PySem.W.Frag) (C : Addr) (sp : Sp) (E : XK) : R2 := fun x y H Q => ∃ (a dx : Addr) (fs : List (Str × V)), x = .ref a ∧ H a = some (.ins C dx fs) ∧ Second K H C y ∧
  sp [x, y] H (fun v H' => ∃ k, v = .bl k ∧ Q (.bl (if neg then !k else k)) H') E
/-- the class's own ==, and what it is called by -/
structure OwnEqual (K : PySem.W.Frag) (C f : Addr) : Prop where
  top : mroIn K C (.type "object") = some true
  ne : findIn K (.ref C) "__ne__" = some (some (.builtin "object.__ne__"))
  eq : findIn K (.ref C) "__eq__" = some (some (.ref f))
  fn : isFn K (.ref f) = true
section
variable {X : Cx} {CX : CXT} {n : Nat} {C f : Addr} {fd : FuncData} {ps : List Str} {sp : Sp} {E : XK}
theorem run_own {A : Around} {pins : List (Addr × Obj)} {σ : L2.St} {H : Hp} {s : Shared} {Q : VK} {us : List Value} {ys : List V} (F : FnOk X.prog X.w X.K X.mg X.base CX n f fd ps sp) (hb : Binds X.K fd ps []) (hx : Passes CX X E)
    (room : Room n A) (fr : A.frames = X.A.frames) (I : Inv X pins σ H s) (r : Vals ys us) (h : sp ys H Q E) : wpAny (model X.prog X.w) A (call (.ref f) us) (EP X pins σ Q) X.xe s := by
  have lenY : ys.length = ps.length := F.len _ _ _ _ h
  have lenU : us.length = ps.length := by rw [← r.length, lenY]
  have b0 := hb s us I.kIn (by simpa using lenU)
  rw [List.append_nil] at b0
  have e0 : Env0 X.prog X.w X.K X.mg X.base A X.stack s H := { I.env0 with frames := fr.trans I.env0.frames }
  apply wpAny_call
  refine codeAny_mono (F.run A X.stack s H ⟨us, []⟩ us ys Q E room e0 b0 r h) ?_
  intro res s2 got
  rcases res with e | (_ | _ | _ | u)
  · exact hx pins σ H s e s2 I got
  · exact got.elim
  · exact got.elim
  · exact got.elim
  · exact I.after got
theorem op_ownEq (F : FnOk X.prog X.w X.K X.mg X.base CX n f fd ps sp) (hb : Binds X.K fd ps []) (hx : Passes CX X E) (O : OwnEqual X.K C f) (room : Room n X.A) : OpR X (compareOp .Eq) (rOwn false X.K C sp E) := by
  rintro pins s σ H x y v u Q I rx ry ⟨a, dx, fs, rfl, ha, sec, p⟩
  obtain ⟨tb, lk, nf⟩ := sec.type I ry
  cases rx
  obtain ⟨mA, J, _⟩ := ins_get I.hok ha
  obtain ⟨od, J, _⟩ := J.look
  obtain ⟨m, fr⟩ := I.fr
  show wpAny _ _ (richCompare .Eq _ _) _ _ _
  refine PySem.W.cmp_K (op := .Eq) room.units0 fr I.ok.mod.kin J lk nf O.eq O.fn ?_
  refine wpAny_mono (run_own F hb hx room rfl I (ys := [.ref a, y]) (.cons (show L2.RelV (.ref a) (.ref a) from rfl) (.cons ry .nil)) p) ?_ fun _ _ e => e
  rintro r s2 ⟨z, σ2, J2, rz, k, rfl, q⟩
  obtain rfl := rz
  exact ⟨.bl k, _, J2, (show L2.RelV (.bl k) (.bool k) from rfl), q⟩
theorem op_ownNe (F : FnOk X.prog X.w X.K X.mg X.base CX n f fd ps sp) (hb : Binds X.K fd ps []) (hx : Passes CX X E) (O : OwnEqual X.K C f) (room : Room (n + 1) X.A) : OpR X (compareOp .NotEq) (rOwn true X.K C sp E) := by
  rintro pins s σ H x y v u Q I rx ry ⟨a, dx, fs, rfl, ha, sec, p⟩
  obtain ⟨tb, lk, nf⟩ := sec.type I ry
  cases rx
  obtain ⟨mA, J, _⟩ := ins_get I.hok ha
  obtain ⟨od, J, _⟩ := J.look
  show wpAny _ _ (richCompare .NotEq _ _) _ _ _
  refine ne_own (f := f) (by have := room.un; omega) I.kIn J lk nf O.top O.ne O.eq O.fn ?_
  refine wpAny_mono (run_own F hb hx room.in1 rfl I (ys := [.ref a, y]) (.cons (show L2.RelV (.ref a) (.ref a) from rfl) (.cons ry .nil)) p) ?_ fun _ _ e => e
  rintro r s2 ⟨z, σ2, J2, rz, k, rfl, q⟩
  obtain rfl := rz
  exact ⟨k, rfl, .bl (!k), _, J2, (show L2.RelV (.bl (!k)) (.bool (!k)) from rfl), q⟩
end
end Wp
set_option Elab.async false
set_option linter.all false
set_option maxRecDepth 100000
set_option maxHeartbeats 4000000
/-! A dict beside a text; tuples that hold the same things. -/
namespace Wp
open PySem PySem.Spec PyProof.Rows L2
open PySem.SeqAt AutoSeq1 MeetsSeq MeetsSeq2 MeetsSeq3 SeqRoads2
section
variable {prog : Program} {w : World} {A : Around} {s : Shared} {d : Addr} {o : Obj}
theorem subSD : isSubtype (.type "str") (.type "dict") = pure false := by rw [isSubtype_type]; kernel_rfl
theorem subDS : isSubtype (.type "dict") (.type "str") = pure false := by rw [isSubtype_type]; kernel_rfl
theorem dict_no {z : Str} {t : Tok} {E : Value → Shared → Prop} {Q : Value → Shared → Prop} (ho : s.heap.get? d = some o) (hc : o.cls = .type "dict") (q : Q .notImplemented s) :
    wpAny (model prog w) A (call (.builtin "dict.__eq__") [.ref d, .str z t]) Q E s := by
  have ty : s.TypeIs (.ref d) "dict" := ⟨o, ho, hc⟩
  refine wpAny_call_entry PySem.F.slot_dict_eq ty PySem.F.entry_dict_eq ?_ (PySem.F.args_dict_eq_2 _ _)
  show wpAny _ _ (Builtin.Dict.dictSlotArgs "__eq__" ⟨[.ref d, .str z t], []⟩ >>= _) _ _ s
  apply wpAny_bind
  unfold Builtin.Dict.dictSlotArgs
  apply wpAny_bind
  apply wpAny_notOrdered_dict ty
  show wpAny _ _ (pure (Value.ref d, Value.str z t)) _ _ s
  apply wpAny_pure
  apply wpAny_bind
  refine wpAny_isInstance (T := "str") (typeIs_str s z t) subSD ?_
  simp only [Bool.not_false, if_true]
  exact wpAny_bind (wpAny_rule (wpAny_pure ⟨_, rfl, q⟩))
theorem str_no {z : Str} {t : Tok} {E : Value → Shared → Prop} {Q : Value → Shared → Prop} {es : Array DictEntry} {ep : Nat} (ho : s.heap.get? d = some o) (hd : o.data = .dict es ep) (q : Q .notImplemented s) :
    wpAny (model prog w) A (call (.builtin "str.__eq__") [.str z t, .ref d]) Q E s := by
  refine wpAny_call_entry PySem.F.slot_str_eq (typeIs_str s z t) PySem.F.entry_str_eq ?_ (PySem.F.args_str_eq_2 _ _)
  obtain ⟨hp, g, dr, tk, os⟩ := s
  wp_walk using wpAny_load ho
  rw [hd]
  wp_walk
  exact ⟨_, rfl, q⟩
theorem rc_dictTxt {es : Array DictEntry} {ep : Nat} (z : Str) (t : Tok) (ho : s.heap.get? d = some o) (hc : o.cls = .type "dict") (hd : o.data = .dict es ep) (hu : A.units < cLine) : RcAt A s (.ref d) (.str z t) false := fun prog w E Q h =>
  rc_eq_decline_or (k := false) ⟨o, ho, hc⟩ (typeIs_str s z t) (by decide) subSD PySem.F.slot_dict_eq PySem.F.slot_str_eq_refl (fun _ q => dict_no ho hc q) (fun _ q => str_no ho hd q) (fun _ q => wpAny_of_eq (rfl : isSame (.ref d) (.str z t) = pure false) q) (.inr hu) h
theorem rc_txtDict {es : Array DictEntry} {ep : Nat} (z : Str) (t : Tok) (ho : s.heap.get? d = some o) (hc : o.cls = .type "dict") (hd : o.data = .dict es ep) (hu : A.units < cLine) : RcAt A s (.str z t) (.ref d) false := fun prog w E Q h =>
  rc_eq_decline_or (k := false) (typeIs_str s z t) ⟨o, ho, hc⟩ (by decide) subDS PySem.F.slot_str_eq PySem.F.slot_dict_eq_refl (fun _ q => str_no ho hd q) (fun _ q => dict_no ho hc q) (fun _ q => wpAny_of_eq (rfl : isSame (.str z t) (.ref d) = pure false) q) (.inr hu) h
theorem eq_txtDict {es : Array DictEntry} {ep : Nat} (z : Str) (t : Tok) (ho : s.heap.get? d = some o) (hc : o.cls = .type "dict") (hd : o.data = .dict es ep) (hu : A.units < cLine) : EqAt A s (.str z t) (.ref d) false := fun prog w E Q h => by
  unfold eqBool
  apply wpAny_holding
  refine wpAny_ite_split (fun e => absurd (eq_of_beq e) nofun) fun _ => ?_
  exact wpAny_bind (rc_txtDict z t ho hc hd hu prog w E _ (wpAny_truthy_bool h))
end
/-- small data, or the empty dict -/
inductive Dq (K : PySem.W.Frag) (H : Hp) : V → PyData → Prop
  | dat {v : V} {d : PyData} : Dp K H v d → SeqAt.shaped d = true → Dq K H v d
  | dct {a : Addr} : H a = some (.dK []) → Dq K H (.ref a) (.dict [])
/-- the data is this text -/
def isTxt : PyData → Str → Bool
  | .str x, z => decide (x = z)
  | _, _ => false
theorem isTxt_iff {d : PyData} {z : Str} : isTxt d z = true ↔ d = .str z := by
  cases d <;> simp [isTxt]
theorem str_beq_decide (x z : Str) : (x == z) = decide (x = z) := by
  by_cases e : x = z
  · simp [e]
  · rw [decide_eq_false e]
    exact beq_eq_false_iff_ne.mpr e
theorem eqv_txt (d : PyData) (z : Str) : PyData.eqv d (.str z) = isTxt d z := by
  cases d <;> simp [PyData.eqv, isTxt, str_beq_decide]
theorem txt_eqv (d : PyData) (z : Str) : PyData.eqv (.str z) d = isTxt d z := by
  cases d with
  | str x =>
    show (z == x) = decide (x = z)
    rw [str_beq_decide]
    by_cases e : x = z
    · simp [e]
    · rw [decide_eq_false e, decide_eq_false fun q => e q.symm]
  | _ => simp [PyData.eqv, isTxt]
section
variable {X : Cx}
/-- x == 'text' -/
def rEqTxt (neg : Bool) (K : PySem.W.Frag) : R2 := fun x y H Q => ∃ (d : PyData) (z : Str), y = .str z ∧ SeqAt.shaped (.str z) = true ∧ Dq K H x d ∧ Q (.bl (if neg then !isTxt d z else isTxt d z)) H
theorem dict_obj {pins : List (Addr × Obj)} {σ : L2.St} {H : Hp} {s : Shared} {a : Addr} (I : Inv X pins σ H s) (h : H a = some (.dK [])) : ∃ o es ep, s.heap.get? a = some o ∧ o.cls = .type "dict" ∧ o.data = .dict es ep ∧ (a == sysModules) = false := by
  obtain ⟨_, no, vs, _, o, es, ep, ho, ex, hd, _⟩ := I.hok a _ h
  exact ⟨o, es, ep, ho, ex.1, hd, no⟩
theorem op_eqTxt (hu : X.A.units + 64 < cLine) : OpR X (compareOp .Eq) (rEqTxt false X.K) := by
  rintro pins s σ H x y v u Q I rx ry ⟨d, z, rfl, hz, q, k⟩
  cases q with
  | dat q sh =>
    refine op_eqD hu pins s σ H x (.str z) v u Q I rx ry ⟨d, .str z, q, .str z, sh, hz, ?_⟩
    rw [eqv_txt]
    exact k
  | dct h =>
    cases rx
    obtain ⟨t, rfl⟩ := ry
    obtain ⟨o, es, ep, ho, hc, hd, _⟩ := dict_obj I h
    show wpAny _ _ (richCompare .Eq _ _) _ _ _
    exact rc_dictTxt z t ho hc hd (by omega) _ _ _ _ ⟨.bl false, H, I, rfl, k⟩
/-- x in a tuple of texts -/
def rInTxt (neg : Bool) (K : PySem.W.Frag) : R2 := fun x y H Q => ∃ (d : PyData) (p : Addr) (zs : List Str), y = .ref p ∧ SqT K H p (zs.map V.str) ∧ (∀ z ∈ zs, SeqAt.shaped (.str z) = true) ∧ Dq K H x d ∧ Q (.bl (if neg then !zs.any (fun z => isTxt d z) else zs.any fun z => isTxt d z)) H
def eTxt (d : PyData) : Value → Bool
  | .str z _ => isTxt d z
  | _ => false
theorem any_txt (d : PyData) : ∀ (zs : List Str) (us : List Value), Vals (zs.map V.str) us → us.any (eTxt d) = zs.any fun z => isTxt d z
  | [], _, .nil => rfl
  | z :: zs, _, .cons r t => by
    obtain ⟨k, rfl⟩ := r
    rw [List.any_cons, List.any_cons, any_txt d zs _ t]
    rfl
theorem in_at {A : Around} {pins : List (Addr × Obj)} {σ : L2.St} {H : Hp} {s : Shared} {x : V} {v : Value} {d : PyData} (I : Inv X pins σ H s) (rx : RelV x v) (q : Dq X.K H x d) (hu : A.units + 64 < cLine) :
    ∀ (zs : List Str) (us : List Value), (∀ z ∈ zs, SeqAt.shaped (.str z) = true) → Vals (zs.map V.str) us → ∀ u ∈ us, EqAt A s u v (eTxt d u)
  | [], _, _, .nil => fun u hu => (by cases hu)
  | z :: zs, _, hz, .cons r t => fun u hm => by
    rcases List.mem_cons.mp hm with rfl | hm
    · obtain ⟨k, rfl⟩ := r
      cases q with
      | dat q sh =>
        obtain ⟨as, rd⟩ := Dp.reads I d x v q rx
        have e := SeqAt.eqAt_reads (.str z) d A s (.str z k) v _ _ (Reads.str z k) rd (SeqAt.canLay_of_shaped (hz z List.mem_cons_self)) (SeqAt.canLay_of_shaped sh) (SeqAt.room_of_shaped (hz z List.mem_cons_self) hu)
        rw [txt_eqv] at e
        exact e
      | dct h =>
        cases rx
        obtain ⟨o, es, ep, ho, hc, hd, _⟩ := dict_obj I h
        exact eq_txtDict z k ho hc hd (by omega)
    · exact in_at I rx q hu zs _ (fun y hy => hz y (List.mem_cons_of_mem _ hy)) t u hm
theorem op_inTxt (hu : X.A.units + 65 < cLine) : OpR X (compareOp .In) (rInTxt false X.K) := by
  rintro pins s σ H x y v u Q I rx ry ⟨d, p, zs, rfl, sq, hz, q, k⟩
  cases ry
  obtain ⟨us, rel, tup, _⟩ := I.tuple sq
  refine SeqAt.in_tupleAt (eTxt d) tup (fun w hw => in_at (A := X.A.in1) I rx q (show X.A.units + 1 + 64 < cLine by omega) zs us hz rel w (by simpa using hw)) ⟨.bl _, H, I, rfl, ?_⟩
  rw [show us.toArray.any (eTxt d) = us.any (eTxt d) by simp, any_txt d zs us rel]
  exact k
theorem op_notInTxt (hu : X.A.units + 65 < cLine) : OpR X (compareOp .NotIn) (rInTxt true X.K) := by
  rintro pins s σ H x y v u Q I rx ry ⟨d, p, zs, rfl, sq, hz, q, k⟩
  cases ry
  obtain ⟨us, rel, tup, _⟩ := I.tuple sq
  refine SeqAt.notIn_tupleAt (eTxt d) tup (fun w hw => in_at (A := X.A.in1) I rx q (show X.A.units + 1 + 64 < cLine by omega) zs us hz rel w (by simpa using hw)) ⟨.bl _, H, I, rfl, ?_⟩
  rw [show us.toArray.any (eTxt d) = us.any (eTxt d) by simp, any_txt d zs us rel]
  exact k
/-- two tuples that hold the same things as far as both reach -/
def rEqSame (K : PySem.W.Frag) : R2 := fun x y H Q => ∃ (a b : Addr) (xs ys : List Addr), x = .ref a ∧ y = .ref b ∧ SqT K H a (xs.map V.ref) ∧ SqT K H b (ys.map V.ref) ∧ (∀ (i : Nat) (h1 : i < xs.length) (h2 : i < ys.length), xs[i] = ys[i]) ∧ Q (.bl (decide (xs.length = ys.length))) H
theorem refs_are : ∀ {xs : List Addr} {us : List Value}, Vals (xs.map V.ref) us → us = xs.map Value.ref
  | [], _, .nil => rfl
  | x :: xs, _, .cons r t => by
    cases r
    rw [refs_are t]
    rfl
theorem op_eqSame (hu : X.A.units < cLine) : OpR X (compareOp .Eq) (rEqSame X.K) := by
  rintro pins s σ H x y v u Q I rx ry ⟨a, b, xs, ys, rfl, rfl, sa, sb, same, k⟩
  cases rx
  cases ry
  obtain ⟨us, r1, t1, _⟩ := I.tuple sa
  obtain ⟨ws, r2, t2, _⟩ := I.tuple sb
  obtain rfl := refs_are r1
  obtain rfl := refs_are r2
  refine SeqAt.eq_tupleAt (e := fun _ => true) t1 t2 hu (fun j h1 h2 => ?_) ⟨.bl _, H, I, rfl, ?_⟩
  · simp at h1 h2
    have e := same j h1 h2
    simp [e]
    exact EqAt.same _
  · have e : (((List.range (min (xs.map Value.ref).toArray.size (ys.map Value.ref).toArray.size)).all fun _ => true) && (xs.map Value.ref).toArray.size == (ys.map Value.ref).toArray.size) = decide (xs.length = ys.length) := by
      by_cases z : xs.length = ys.length <;> simp [z]
    rw [e]
    exact k
end
end Wp
set_option Elab.async false
set_option linter.all false
set_option maxRecDepth 100000
set_option maxHeartbeats 4000000
namespace Wp
open PySem L2
/-! ## data's types -/
def tyN : PyData → String
  | .none => "NoneType"
  | .bool _ => "bool"
  | .int _ => "int"
  | .str _ => "str"
  | .list _ => "list"
  | .tuple _ => "tuple"
  | .dict _ => "dict"
theorem SqL.ty {K : PySem.W.Frag} {H : Hp} {a : Addr} {xs : List V} (h : SqL K H a xs) : TyX K H (.ref a) (.type "list") := by
  rcases h with (h | ⟨o, h⟩) | ⟨o, us, n, h, hc, _⟩
  · exact .base (.lst h)
  · exact .base (.frz h)
  · exact .kList h hc
theorem SqT.ty {K : PySem.W.Frag} {H : Hp} {a : Addr} {xs : List V} (h : SqT K H a xs) : TyX K H (.ref a) (.type "tuple") := by
  rcases h with (h | ⟨o, h⟩) | ⟨o, us, n, h, hc, _⟩
  · exact .base (.tup h)
  · exact .fTuple h
  · exact .kTuple h hc
theorem Dq.ty {K : PySem.W.Frag} {H : Hp} {v : V} {d : PyData} (h : Dq K H v d) : TyX K H v (.type (tyN d)) := by
  cases h with
  | dat q sh =>
    cases q with
    | non => exact .base .non
    | bl b => exact .base (.bl b)
    | int i => exact .base (.int i)
    | str x => exact .base (.str x)
    | lst s _ => exact SqL.ty s
    | tup s _ => exact SqT.ty s
  | dct e => exact .base (.dK e)
def isInt : PyData → Bool
  | .int _ => true
  | _ => false
def isBool : PyData → Bool
  | .bool _ => true
  | _ => false
def isStr : PyData → Bool
  | .str _ => true
  | _ => false
def isLst : PyData → Bool
  | .list _ => true
  | _ => false
def isTup : PyData → Bool
  | .tuple _ => true
  | _ => false
theorem kit_int {K : PySem.W.Frag} (d : PyData) : PySem.W.kitOne K (.type (tyN d)) (.type "int") = some (isInt d || isBool d) := by
  cases d with
  | none => exact kit_ty (a := "NoneType") (b := "int") (r := false) (by decide +kernel)
  | bool b => exact kit_ty (a := "bool") (b := "int") (r := true) (by decide +kernel)
  | int i => exact kit_ty (a := "int") (b := "int") (r := true) (by decide +kernel)
  | str x => exact kit_ty (a := "str") (b := "int") (r := false) (by decide +kernel)
  | list l => exact kit_ty (a := "list") (b := "int") (r := false) (by decide +kernel)
  | tuple l => exact kit_ty (a := "tuple") (b := "int") (r := false) (by decide +kernel)
  | dict l => exact kit_ty (a := "dict") (b := "int") (r := false) (by decide +kernel)
theorem kit_bool {K : PySem.W.Frag} (d : PyData) : PySem.W.kitOne K (.type (tyN d)) (.type "bool") = some (isBool d) := by
  cases d with
  | none => exact kit_ty (a := "NoneType") (b := "bool") (r := false) (by decide +kernel)
  | bool b => exact kit_ty (a := "bool") (b := "bool") (r := true) (by decide +kernel)
  | int i => exact kit_ty (a := "int") (b := "bool") (r := false) (by decide +kernel)
  | str x => exact kit_ty (a := "str") (b := "bool") (r := false) (by decide +kernel)
  | list l => exact kit_ty (a := "list") (b := "bool") (r := false) (by decide +kernel)
  | tuple l => exact kit_ty (a := "tuple") (b := "bool") (r := false) (by decide +kernel)
  | dict l => exact kit_ty (a := "dict") (b := "bool") (r := false) (by decide +kernel)
theorem kit_str {K : PySem.W.Frag} (d : PyData) : PySem.W.kitOne K (.type (tyN d)) (.type "str") = some (isStr d) := by
  cases d with
  | none => exact kit_ty (a := "NoneType") (b := "str") (r := false) (by decide +kernel)
  | bool b => exact kit_ty (a := "bool") (b := "str") (r := false) (by decide +kernel)
  | int i => exact kit_ty (a := "int") (b := "str") (r := false) (by decide +kernel)
  | str x => exact kit_ty (a := "str") (b := "str") (r := true) (by decide +kernel)
  | list l => exact kit_ty (a := "list") (b := "str") (r := false) (by decide +kernel)
  | tuple l => exact kit_ty (a := "tuple") (b := "str") (r := false) (by decide +kernel)
  | dict l => exact kit_ty (a := "dict") (b := "str") (r := false) (by decide +kernel)
theorem kit_list {K : PySem.W.Frag} (d : PyData) : PySem.W.kitOne K (.type (tyN d)) (.type "list") = some (isLst d) := by
  cases d with
  | none => exact kit_ty (a := "NoneType") (b := "list") (r := false) (by decide +kernel)
  | bool b => exact kit_ty (a := "bool") (b := "list") (r := false) (by decide +kernel)
  | int i => exact kit_ty (a := "int") (b := "list") (r := false) (by decide +kernel)
  | str x => exact kit_ty (a := "str") (b := "list") (r := false) (by decide +kernel)
  | list l => exact kit_ty (a := "list") (b := "list") (r := true) (by decide +kernel)
  | tuple l => exact kit_ty (a := "tuple") (b := "list") (r := false) (by decide +kernel)
  | dict l => exact kit_ty (a := "dict") (b := "list") (r := false) (by decide +kernel)
theorem kit_tuple {K : PySem.W.Frag} (d : PyData) : PySem.W.kitOne K (.type (tyN d)) (.type "tuple") = some (isTup d) := by
  cases d with
  | none => exact kit_ty (a := "NoneType") (b := "tuple") (r := false) (by decide +kernel)
  | bool b => exact kit_ty (a := "bool") (b := "tuple") (r := false) (by decide +kernel)
  | int i => exact kit_ty (a := "int") (b := "tuple") (r := false) (by decide +kernel)
  | str x => exact kit_ty (a := "str") (b := "tuple") (r := false) (by decide +kernel)
  | list l => exact kit_ty (a := "list") (b := "tuple") (r := false) (by decide +kernel)
  | tuple l => exact kit_ty (a := "tuple") (b := "tuple") (r := true) (by decide +kernel)
  | dict l => exact kit_ty (a := "dict") (b := "tuple") (r := false) (by decide +kernel)
theorem boot_isi : bootBuiltins "isinstance" = some (.builtin "isinstance") := by decide +kernel
theorem boot_tint : bootBuiltins "int" = some (.type "int") := by decide +kernel
theorem boot_tbool : bootBuiltins "bool" = some (.type "bool") := by decide +kernel
theorem boot_tstr : bootBuiltins "str" = some (.type "str") := by decide +kernel
/-- the built-in names are not hidden -/
structure Bn (mg : Str → Option Value) : Prop where
  isi : mg "isinstance" = none
  int : mg "int" = none
  bool : mg "bool" = none
  str : mg "str" = none
  len : mg "len" = none
  list : mg "list" = none
  tuple : mg "tuple" = none
  all : mg "all" = none
  set : mg "set" = none
  repr : mg "repr" = none
  range : mg "range" = none
section
variable {P : Program} {w : World} {K : PySem.W.Frag} {mg : Str → Option Value} {base : Heap}
abbrev sIsInt : Stmt := top 12
def spIsInt (K : PySem.W.Frag) : Sp := fun vs H Q _ => ∃ (v : V) (d : PyData), vs = [v] ∧ Dq K H v d ∧ Q (.bl (isInt d)) H
theorem scIsInt : FnScope ["value"] ["value"] (defScope sIsInt) := ⟨rfl, rfl, rfl, by decide +kernel, rfl, by decide +kernel, by decide +kernel⟩
theorem ok_isInt {f : Addr} {fd : FuncData} (F : Fun K "is_integer" "is_integer" sIsInt f fd) (B : Bn mg) : FnOk P w K mg base CX0 1 f fd ["value"] (spIsInt K) := by
  refine F.ok scIsInt (fun vs H Q E h => ?_) (fun cdv A outer s H vs Q E hr h => ?_)
  · obtain ⟨v, d, rfl, _⟩ := h
    rfl
  · obtain ⟨v, d, rfl, q, k⟩ := h
    refine ⟨_, pss_one (ps_ret (pe_and (pe_callB call_isi (by rfl) B.isi boot_isi (pa_cons (pv 0) (pa_cons (pe_bltn (v := .ty "int") (by rfl) B.int boot_tint rfl) pa_nil)))
      (pe_one (pe_not (pe_callB call_isi (by rfl) B.isi boot_isi (pa_cons (pv 0) (pa_cons (pe_bltn (v := .ty "bool") (by rfl) B.bool boot_tbool rfl) pa_nil))))))), ?_⟩
    refine ⟨_, rfl, _, _, _, _, _, rfl, .ty "int", q.ty, kit_int d, _, rfl, ?_⟩
    cases d <;> first | exact k | skip
    all_goals
      refine ⟨_, rfl, _, _, _, _, _, rfl, .ty "bool", q.ty, kit_bool _, _, rfl, ?_⟩
      exact k
end
end Wp
set_option Elab.async false
set_option linter.all false
set_option maxRecDepth 100000
set_option maxHeartbeats 4000000
namespace Wp
open PySem L2
/-! ## words -/
def smallS : Str := "abcdefghijklmnopqrstuvwxyz"
def largeS : Str := "ABCDEFGHIJKLMNOPQRSTUVWXYZ"
/-- the written constants -/
structure Cn (mg : Str → Option Value) : Prop where
  small : ∃ u, mg "SMALL" = some u ∧ RelV (.str smallS) u
  large : ∃ u, mg "LARGE" = some u ∧ RelV (.str largeS) u
  most : ∃ u, mg "NAME_LETTERS" = some u ∧ RelV (.int 8) u
  bound : ∃ u, mg "DEFAULT_BOUND" = some u ∧ RelV (.int 1000000000000) u
  any : ∃ u, mg "ANY" = some u ∧ RelV (.str "any") u
  old : ∃ u, mg "OLD_NAMES" = some u ∧ RelV (.int 2) u
def lettersIn (z x : Str) : Bool := x.cps.toList.all fun c => decide (c ∈ z.cps.toList)
def isWordN (m : Int) : PyData → Bool
  | .str x => decide (1 ≤ x.length) && decide ((x.length : Int) ≤ m) && lettersIn smallS x
  | _ => false
/-- no text in it is long at its top -/
def Shrt : PyData → Prop
  | .str x => x.length ≤ 1000
  | _ => True
theorem boot_all : bootBuiltins "all" = some (.builtin "all") := by decide +kernel
theorem same_new {H : Hp} {D : Addr} {o : HO} (h : H D = none) : Same H (upd H D o) := fun b u e => by
  rw [upd_ne (ne_of_none e h)]
  exact e
theorem pe_cn {X : Cx} {x : Str} {v : V} {pos : Pos} (hg : Gl X x) (h : ∃ u, X.mg x = some u ∧ RelV v u) (hd : (x == ("__debug__" : Str)) = false := by decide) : PE X (.Name x pos) (tC v) :=
  h.elim fun _ q => pe_glob hg q.1 q.2 hd
section
variable {P : Program} {w : World} {K : PySem.W.Frag} {mg : Str → Option Value} {base : Heap}
abbrev sIsWord : Stmt := top 13
def spIsWord (K : PySem.W.Frag) : Sp := fun vs H Q _ => ∃ (v : V) (d : PyData) (m : Int), vs = [v, .int m] ∧ Dq K H v d ∧ Shrt d ∧ ∀ H', Same H H' → Q (.bl (isWordN m d)) H'
theorem scIsWord : FnScope ["value", "most", "letter"] ["value", "most"] (defScope sIsWord) := ⟨rfl, rfl, rfl, by decide +kernel, rfl, by decide +kernel, by decide +kernel⟩
theorem ok_isWord {f : Addr} {fd : FuncData} (F : Fun K "is_word" "is_word" sIsWord f fd) (B : Bn mg) (C : Cn mg) : FnOk P w K mg base CX0 1 f fd ["value", "most"] (spIsWord K) := by
  refine F.ok scIsWord (fun vs H Q E h => ?_) (fun cdv A outer s H vs Q E hr h => ?_)
  · obtain ⟨v, d, m, rfl, _⟩ := h
    rfl
  · obtain ⟨v, d, m, rfl, q, sh, k⟩ := h
    refine ⟨_, pss_one (ps_ret (pe_and (pe_callB call_isi (by rfl) B.isi boot_isi (pa_cons (pv 0) (pa_cons (pe_bltn (v := .ty "str") (by rfl) B.str boot_tstr rfl) pa_nil)))
      (pe_and (pe_chain op_le op_le pe_int (pe_callB call_len_str (by rfl) B.len PySem.boot_len (pa_cons (pv 0) pa_nil)) (pv 1))
      (pe_one (pe_callB (cr_all rfl) (by rfl) B.all boot_all (pa_cons (pe_lc (own := [("letter", 2)]) (g := gName 2) (tt := tYes) rfl scIsWord.nd (pi_str (pv 0))
        (blkOk_by (N := ["value", "most", "letter"]) (sc := defScope sIsWord) (by decide +kernel)) (fun _ _ _ _ _ => pg_name (i := 2) scIsWord.nd rfl (Or.inl rfl)) (fun _ _ _ _ _ => pts_nil)
        (fun _ _ _ _ _ => pe_cmpR op_in_sign (pv 2) (pe_cn (by rfl) C.small) (by rfl))) pa_nil)))))), ?_⟩
    refine ⟨_, rfl, _, _, _, _, _, rfl, .ty "str", q.ty, kit_str d, _, rfl, ?_⟩
    cases d with
    | str x =>
      have ev : v = .str x := by
        cases q with
        | dat q _ => cases q; rfl
      subst ev
      refine ⟨_, rfl, x, rfl, ?_, ?_⟩
      · have : x.length ≤ 1000 := sh
        rw [sizeLine_eq]
        omega
      refine ⟨_, _, rfl, rfl, _, rfl, ?_⟩
      refine ite2 (fun h1 => ?_) (fun h1 => ?_)
      · refine ⟨_, rfl, _, _, rfl, rfl, _, rfl, ?_⟩
        refine ite2 (fun h2 => ?_) (fun h2 => ?_)
        · refine ⟨_, rfl, x, rfl, fun D hD => ?_⟩
          refine lc_it walk_str (fun i H' => H' = upd H D (.lst ((x.cps.toList.take i).map fun c => V.bl (decide (c ∈ smallS.cps.toList))))) rfl (fun _ _ _ _ => trivial) ?_ ?_
          · rintro i y H1 H2 hi rfl ⟨rfl, c, hc, rfl⟩
            refine ⟨rfl, ⟨_, rfl, c, _, rfl, rfl, _, upd_same, ?_, ?_⟩⟩
            · have e1 : x.cps.size ≤ 1000 := sh
              rw [sizeLine_eq, List.length_map, List.length_take]
              omega
            · rw [upd_upd, List.take_add_one, Array.getElem?_toList, hc]
              simp
          · rintro H1 rfl
            refine ⟨D, x.cps.toList.map fun c => decide (c ∈ smallS.cps.toList), rfl, ?_, ?_⟩
            · have e1 : x.cps.toList.take x.cps.size = x.cps.toList := List.take_of_length_le (by simp)
              rw [e1, List.map_map]
              exact SqL.of upd_same
            · have e2 : (x.cps.toList.map fun c => decide (c ∈ smallS.cps.toList)).all id = isWordN m (.str x) := by
                simp only [isWordN, lettersIn]
                rw [show decide (1 ≤ x.length) = true from decide_eq_true (by have := of_decide_eq_true h1; omega), show decide ((x.length : Int) ≤ m) = true from h2]
                simp [List.all_map, Function.comp_def]
              rw [e2]
              exact k _ (same_new hD)
        · have e : isWordN m (.str x) = false := by
            simp only [isWordN]
            rw [decide_eq_false (p := (x.length : Int) ≤ m) fun z => h2 (decide_eq_true z)]
            simp
          have r := k H fun b o z => z
          rw [e] at r
          exact r
      · refine ⟨_, rfl, ?_⟩
        have e : isWordN m (.str x) = false := by
          simp only [isWordN]
          rw [decide_eq_false fun z => h1 (decide_eq_true (by omega))]
          simp
        have r := k H fun b o z => z
        rw [e] at r
        rw [if_neg (by decide)]
        exact r
    | _ => exact k H fun b o e => e
end
end Wp
set_option Elab.async false
set_option linter.all false
set_option maxRecDepth 100000
set_option maxHeartbeats 4000000
namespace Wp
open PySem L2
/-! ## names, defaults, different texts -/
def isFieldName (d : PyData) : Bool := isWordN 8 d
def isKindName : PyData → Bool
  | .str x => match x.cps.toList with
    | [] => false
    | c :: r => decide (x.length ≤ 8) && decide (c ∈ largeS.cps.toList) && r.all fun c => decide (c ∈ smallS.cps.toList)
  | _ => false
def isDefault : PyData → Bool
  | .int i => decide (-1000000000000 < i) && decide (i < 1000000000000)
  | _ => false
/-- [letter in Z for letter in z] -/
def tInSign (Z : Str) (i : Nat) : TE := tOp (fun x y H Q => ∃ (c : Nat) (z : Str), x = .str ⟨#[c]⟩ ∧ y = .str z ∧ Q (.bl (decide (c ∈ z.cps.toList))) H) (tVar i) (tC (.str Z))
theorem lc_signs {z Z : Str} {i : Nat} {σ : L2.St} {H : Hp} {D : Addr} {Q : Hp → Prop} (hi : i < σ.length) (few : z.length ≤ 1000) (k : Q (upd H D (.lst ((z.cps.toList.map fun c => decide (c ∈ Z.cps.toList)).map V.bl)))) :
    ∃ W : Nat → Nat → Hp → Prop, (∃ m, W 0 m (upd H D (.lst []))) ∧ ∀ j m H, W j m H →
      ((Its z).stop j H ∧ Q H) ∨ ((Its z).go j H ∧ ∃ Nx : Hp → Prop, (∀ H', Nx H' → ∃ m', m' < m ∧ W (j + 1) m' H') ∧ ∀ x H', (Its z).yld j H x H' → gName i x (wipe σ [i]) H' fun σ2 H2 => wipe σ2 [i] = wipe σ [i] ∧ tYes σ2 H2 fun b H3 =>
        if b = true then tInSign Z i σ2 H3 fun y H4 => ∃ acc, H4 D = some (.lst acc) ∧ acc.length < sizeLine ∧ Nx (upd H4 D (.lst (acc ++ [y]))) else Nx H3) := by
  refine lc_it walk_str (fun j H' => H' = upd H D (.lst (((z.cps.toList.take j).map fun c => decide (c ∈ Z.cps.toList)).map V.bl))) rfl (fun _ _ _ _ => trivial) ?_ ?_
  · rintro j y H1 H2 hj rfl ⟨rfl, c, hc, rfl⟩
    refine ⟨by simp [wipe, List.set_set], ⟨.str ⟨#[c]⟩, ?_, c, Z, rfl, rfl, _, upd_same, ?_, ?_⟩⟩
    · simp [wipe, hi]
    · have e1 : z.cps.size ≤ 1000 := few
      rw [sizeLine_eq, List.length_map, List.length_map, List.length_take]
      omega
    · rw [upd_upd, List.take_add_one, Array.getElem?_toList, hc]
      simp
  · rintro H1 rfl
    rw [List.take_of_length_le (by simp)]
    exact k
/-- the def, and by which name it is found -/
structure Known (P : Program) (w : World) (K : PySem.W.Frag) (mg : Str → Option Value) (base : Heap) (CX : CXT) (k : Nat) (x : Str) (ps : List Str) (sp : Sp) (f : Addr) (fd : FuncData) : Prop where
  ok : FnOk P w K mg base CX k f fd ps sp
  mg : mg x = some (.ref f)
  kp : PySem.W.keepIn K (.ref f) = true
  bi : Binds K fd ps []
section
variable {P : Program} {w : World} {K : PySem.W.Frag} {mg : Str → Option Value} {base : Heap}
abbrev sIsField : Stmt := top 14
def spIsField (K : PySem.W.Frag) : Sp := fun vs H Q _ => ∃ (v : V) (d : PyData), vs = [v] ∧ Dq K H v d ∧ Shrt d ∧ ∀ H', Same H H' → Q (.bl (isFieldName d)) H'
theorem scIsField : FnScope ["value"] ["value"] (defScope sIsField) := ⟨rfl, rfl, rfl, by decide +kernel, rfl, by decide +kernel, by decide +kernel⟩
theorem ok_isField {f fW : Addr} {fd fdW : FuncData} (F : Fun K "is_field_name" "is_field_name" sIsField f fd) (C : Cn mg) (W : Known P w K mg base CX0 1 "is_word" ["value", "most"] (spIsWord K) fW fdW) : FnOk P w K mg base CX0 2 f fd ["value"] (spIsField K) := by
  refine F.ok scIsField (fun vs H Q E h => ?_) (fun cdv A outer s H vs Q E hr h => ?_)
  · obtain ⟨v, d, rfl, _⟩ := h
    rfl
  · obtain ⟨v, d, rfl, q, sh, k⟩ := h
    refine ⟨_, pss_one (ps_ret (pe_call W.ok hr rfl W.mg W.kp W.bi .nil pass0 (pa_cons (pv 0) (pa_cons (pe_cn (by rfl) C.most) pa_nil)))), ?_⟩
    exact ⟨_, rfl, v, d, 8, rfl, q, sh, k⟩
abbrev sIsKind : Stmt := top 15
def spIsKind (K : PySem.W.Frag) : Sp := fun vs H Q _ => ∃ (v : V) (d : PyData), vs = [v] ∧ Dq K H v d ∧ Shrt d ∧ ∀ H', Same H H' → Q (.bl (isKindName d)) H'
theorem scIsKind : FnScope ["value", "letter"] ["value"] (defScope sIsKind) := ⟨rfl, rfl, rfl, by decide +kernel, rfl, by decide +kernel, by decide +kernel⟩
theorem ok_isKind {f : Addr} {fd : FuncData} (F : Fun K "is_kind_name" "is_kind_name" sIsKind f fd) (B : Bn mg) (C : Cn mg) : FnOk P w K mg base CX0 1 f fd ["value"] (spIsKind K) := by
  refine F.ok scIsKind (fun vs H Q E h => ?_) (fun cdv A outer s H vs Q E hr h => ?_)
  · obtain ⟨v, d, rfl, _⟩ := h
    rfl
  · obtain ⟨v, d, rfl, q, sh, k⟩ := h
    refine ⟨_, pss_cons (ps_if (PW.pt (pw_or (pt_not (pt_val (pe_callB call_isi (by rfl) B.isi boot_isi (pa_cons (pv 0) (pa_cons (pe_bltn (v := .ty "str") (by rfl) B.str boot_tstr rfl) pa_nil)))))
        (pw_or1 (pt_not (pt_chain op_le op_le pe_int (pe_callB call_len_str (by rfl) B.len PySem.boot_len (pa_cons (pv 0) pa_nil)) (pe_cn (by rfl) C.most))))))
        (pss_one (ps_ret pe_bl)) pss_nil)
      (pss_one (ps_ret (pe_and (pe_cmpR op_in_sign (pe_ix ix_str (pv 0) pe_int (fun _ _ => rfl)) (pe_cn (by rfl) C.large) (by rfl))
        (pe_one (pe_callB (cr_all rfl) (by rfl) B.all boot_all (pa_cons (pe_lc (own := [("letter", 1)]) (g := gName 1) (tt := tYes) rfl scIsKind.nd (pi_str (pe_slice sl_str (pv 0) (po_some pe_int) po_none))
        (blkOk_by (N := ["value", "letter"]) (sc := defScope sIsKind) (by decide +kernel)) (fun _ _ _ _ _ => pg_name (i := 1) scIsKind.nd rfl (Or.inl rfl)) (fun _ _ _ _ _ => pts_nil)
        (fun _ _ _ _ _ => pe_cmpR op_in_sign (pv 1) (pe_cn (by rfl) C.small) (by rfl))) pa_nil)))))), ?_⟩
    refine ⟨_, rfl, _, _, _, _, _, rfl, .ty "str", q.ty, kit_str d, _, rfl, ?_⟩
    cases d with
    | str x =>
      have ev : v = .str x := by
        cases q with
        | dat q _ => cases q; rfl
      subst ev
      have few : x.length ≤ 1000 := sh
      have line : x.length ≤ sizeLine := by
        rw [sizeLine_eq]
        omega
      refine ⟨_, rfl, x, rfl, line, ?_⟩
      refine ⟨_, _, rfl, rfl, _, rfl, ?_⟩
      refine ite2 (fun h1 => ?_) (fun h1 => ?_)
      · refine ⟨_, _, rfl, rfl, _, rfl, ?_⟩
        cases h2 : decide ((x.length : Int) ≤ 8) with
        | true =>
          have g1 : 1 ≤ x.length := by
            have := of_decide_eq_true h1
            omega
          have g2 : x.length ≤ 8 := by
            have := of_decide_eq_true h2
            omega
          obtain ⟨c, r, ex⟩ : ∃ c r, x.cps.toList = c :: r := by
            cases e : x.cps.toList with
            | nil =>
              have : x.cps.toList.length = 0 := by rw [e]; rfl
              rw [Array.length_toList] at this
              have e2 : x.length = x.cps.size := rfl
              omega
            | cons c r => exact ⟨c, r, rfl⟩
          refine ⟨_, rfl, x, 0, c, rfl, rfl, line, by rw [ex]; exact atI_nat (j := 0) rfl, c, _, rfl, rfl, _, rfl, ?_⟩
          have ek : isKindName (.str x) = (decide (c ∈ largeS.cps.toList) && r.all fun c => decide (c ∈ smallS.cps.toList)) := by
            simp only [isKindName, ex]
            simp [g2]
          refine ite2 (fun h3 => ?_) (fun h3 => ?_)
          · refine ⟨_, rfl, 1, rfl, x, rfl, line, cutS x (some 1) none, rfl, fun D hD => ?_⟩
            have ec : (cutS x (some 1) none).cps.toList = r := by
              have e1 : HT.sIx x.length 0 (some 1) = 1 := by
                rw [show ((1 : Int)) = ((1 : Nat) : Int) from rfl, HT.sIx_nat]
                omega
              have e2 : HT.sIx x.length x.length none = x.length := rfl
              have e3 : x.length = r.length + 1 := by
                have : x.cps.toList.length = (c :: r).length := by rw [ex]
                rw [Array.length_toList] at this
                exact this
              show (((x.cps.toList.drop (HT.sIx x.length 0 (some 1))).take (HT.sIx x.length x.length none - HT.sIx x.length 0 (some 1))).toArray).toList = r
              rw [e1, e2, ex, e3]
              simp
            refine lc_signs (Z := smallS) (Nat.lt_of_lt_of_eq (by decide : 1 < 2) rfl) (Nat.le_trans (cutS_length _ _ _) few) ?_
            refine ⟨D, _, rfl, SqL.of upd_same, ?_⟩
            have r1 := k _ (same_new (o := .lst (((cutS x (some 1) none).cps.toList.map fun c => decide (c ∈ smallS.cps.toList)).map V.bl)) hD)
            rw [ek, h3, ← ec] at r1
            rw [List.all_map]
            exact r1
          · have r1 := k H fun b o e => e
            rw [ek] at r1
            have h4 : decide (c ∈ largeS.cps.toList) = false := by simpa using h3
            rw [h4] at r1
            exact r1
        | false =>
          have ek : isKindName (.str x) = false := by
            simp only [isKindName]
            cases x.cps.toList with
            | nil => rfl
            | cons c r =>
              rw [decide_eq_false (p := x.length ≤ 8) (by have := of_decide_eq_false h2; omega)]
              rfl
          have r1 := k H fun b o e => e
          rw [ek] at r1
          exact r1
      · have e0 : x.length = 0 := by
          have := h1
          simp at this
          omega
        have ek : isKindName (.str x) = false := by
          have e1 : x.cps.toList = [] := by
            apply List.eq_nil_of_length_eq_zero
            rw [Array.length_toList]
            exact e0
          simp only [isKindName, e1]
        have r1 := k H fun b o e => e
        rw [ek] at r1
        exact ⟨_, rfl, r1⟩
    | _ => exact k H fun b o e => e
end
end Wp
set_option Elab.async false
set_option linter.all false
set_option maxRecDepth 100000
set_option maxHeartbeats 4000000
namespace Wp
open PySem L2
section
variable {P : Program} {w : World} {K : PySem.W.Frag} {mg : Str → Option Value} {base : Heap}
theorem Dq.int_of {H : Hp} {v : V} {d : PyData} (q : Dq K H v d) (e : isInt d = true) : ∃ i, v = .int i ∧ d = .int i := by
  cases d <;> cases e
  cases q with
  | dat q _ =>
    cases q
    exact ⟨_, rfl, rfl⟩
theorem Dq.str_of {H : Hp} {v : V} {x : Str} (q : Dq K H v (.str x)) : v = .str x := by
  cases q with
  | dat q _ =>
    cases q
    rfl
abbrev sIsDef : Stmt := top 16
def spIsDef (K : PySem.W.Frag) : Sp := fun vs H Q _ => ∃ (v : V) (d : PyData), vs = [v] ∧ Dq K H v d ∧ Q (.bl (isDefault d)) H
theorem scIsDef : FnScope ["value"] ["value"] (defScope sIsDef) := ⟨rfl, rfl, rfl, by decide +kernel, rfl, by decide +kernel, by decide +kernel⟩
theorem ok_isDef {f fW : Addr} {fd fdW : FuncData} (F : Fun K "is_default" "is_default" sIsDef f fd) (C : Cn mg) (W : Known P w K mg base CX0 1 "is_integer" ["value"] (spIsInt K) fW fdW) : FnOk P w K mg base CX0 2 f fd ["value"] (spIsDef K) := by
  refine F.ok scIsDef (fun vs H Q E h => ?_) (fun cdv A outer s H vs Q E hr h => ?_)
  · obtain ⟨v, d, rfl, _⟩ := h
    rfl
  · obtain ⟨v, d, rfl, q, k⟩ := h
    refine ⟨_, pss_one (ps_ret (pe_and (pe_call W.ok hr rfl W.mg W.kp W.bi .nil pass0 (pa_cons (pv 0) pa_nil)) (pe_one (pe_chain op_lt op_lt (pe_un un_neg (pe_cn (by rfl) C.bound)) (pv 0) (pe_cn (by rfl) C.bound))))), ?_⟩
    refine ⟨_, rfl, v, d, rfl, q, _, rfl, ?_⟩
    cases e : isInt d with
    | true =>
      obtain ⟨i, rfl, rfl⟩ := q.int_of e
      refine ⟨_, rfl, _, rfl, _, _, rfl, rfl, _, rfl, ?_⟩
      cases e2 : decide (-1000000000000 < i) with
      | true =>
        refine ⟨_, _, rfl, rfl, ?_⟩
        have r := k
        simp only [isDefault, e2, Bool.true_and] at r
        exact r
      | false =>
        have r := k
        simp only [isDefault, e2, Bool.false_and] at r
        exact r
    | false =>
      have e2 : isDefault d = false := by cases d <;> first | rfl | cases e
      rw [e2] at k
      exact k
abbrev sDiff : Stmt := top 17
/-- a list or tuple of texts -/
def Txs (K : PySem.W.Frag) (H : Hp) (a : Addr) (xs : List Str) : Prop := (SqL K H a (xs.map V.str) ∨ SqT K H a (xs.map V.str)) ∧ xs.length ≤ 1000
def spDiff (K : PySem.W.Frag) : Sp := fun vs H Q _ => ∃ (a : Addr) (xs : List Str), vs = [.ref a] ∧ Txs K H a xs ∧ Q (.bl (decide xs.Nodup)) H
theorem scDiff : FnScope ["names"] ["names"] (defScope sDiff) := ⟨rfl, rfl, rfl, by decide +kernel, rfl, by decide +kernel, by decide +kernel⟩
theorem ok_diff {f : Addr} {fd : FuncData} (F : Fun K "are_different" "are_different" sDiff f fd) (B : Bn mg) : FnOk P w K mg base CX0 1 f fd ["names"] (spDiff K) := by
  refine F.ok scDiff (fun vs H Q E h => ?_) (fun cdv A outer s H vs Q E hr h => ?_)
  · obtain ⟨a, xs, rfl, _⟩ := h
    rfl
  · obtain ⟨a, xs, rfl, ⟨sq, few⟩, k⟩ := h
    refine ⟨_, pss_one (ps_ret (pe_cmpR op_eq (pe_lenTxt (by rfl) B.len (by rfl) B.set (pv 0)) (pe_callB call_len_seq (by rfl) B.len PySem.boot_len (pa_cons (pv 0) pa_nil)) (nomark _))), ?_⟩
    refine ⟨_, rfl, a, xs, rfl, sq, by omega, _, rfl, a, xs.map V.str, rfl, sq, rfl, ?_⟩
    have e : decide (V.int ((TS.once xs).length : Nat) = V.int (xs.map V.str).length) = decide xs.Nodup := by
      by_cases n : xs.Nodup
      · rw [decide_eq_true n, (TS.once_len xs).mpr n]
        simp
      · rw [decide_eq_false n]
        refine decide_eq_false fun z => n ((TS.once_len xs).mp ?_)
        injection z with z
        simp at z
        omega
    rw [e]
    exact k
end
end Wp
set_option Elab.async false
set_option linter.all false
set_option maxRecDepth 100000
set_option maxHeartbeats 4000000
namespace Wp
open PySem L2
def isNon : PyData → Bool
  | .none => true
  | _ => false
def isZero : PyData → Bool
  | .int i => decide (i = 0)
  | _ => false
def fitsMode (m t d : PyData) : Bool :=
  if isTxt m "mark" then isNon t && isDefault d
  else (isTxt m "link" || isTxt m "list") && isZero d && (isTxt t "any" || isKindName t)
theorem Dq.non {K : PySem.W.Frag} {H : Hp} {v : V} {d : PyData} (q : Dq K H v d) : decide (v = .non) = isNon d := by
  cases q with
  | dat q _ => cases q <;> simp [isNon]
  | dct _ => simp [isNon]
section
variable {K : PySem.W.Frag} {H H' : Hp}
theorem sqL_same (e : Same H H') {a : Addr} {xs : List V} (h : SqL K H a xs) : SqL K H' a xs := SqL.ext h e
theorem sqT_same (e : Same H H') {a : Addr} {xs : List V} (h : SqT K H a xs) : SqT K H' a xs := SqT.ext h e
mutual
theorem dp_same (e : Same H H') : ∀ {v : V} {d : PyData}, Dp K H v d → Dp K H' v d
  | _, _, .non => .non
  | _, _, .bl b => .bl b
  | _, _, .int i => .int i
  | _, _, .str x => .str x
  | _, _, .lst s a => .lst (sqL_same e s) (dpAll_same e a)
  | _, _, .tup s a => .tup (sqT_same e s) (dpAll_same e a)
theorem dpAll_same (e : Same H H') : ∀ {vs : List V} {ds : List PyData}, DpAll K H vs ds → DpAll K H' vs ds
  | _, _, .nil => .nil
  | _, _, .cons a b => .cons (dp_same e a) (dpAll_same e b)
end
theorem Dq.same (e : Same H H') {v : V} {d : PyData} (q : Dq K H v d) : Dq K H' v d := by
  cases q with
  | dat q sh => exact .dat (dp_same e q) sh
  | dct h => exact .dct (e _ _ h)
end
structure Mo (K : PySem.W.Frag) (mg : Str → Option Value) : Prop where
  modes : ∃ (t : Addr) (o : Obj) (us : List Value) (n : Nat), mg "SLOT_MODES" = some (.ref t) ∧ ∀ H : Hp, SqT K H t [.str "link", .str "list"]
theorem sh_mark : SeqAt.shaped (.str "mark") = true := by decide +kernel
theorem sh_any : SeqAt.shaped (.str "any") = true := by decide +kernel
theorem sh_modes : ∀ z ∈ (["link", "list"] : List Str), SeqAt.shaped (.str z) = true := by decide +kernel
section
variable {P : Program} {w : World} {K : PySem.W.Frag} {mg : Str → Option Value} {base : Heap}
abbrev sFits : Stmt := top 22
def spFits (K : PySem.W.Frag) : Sp := fun vs H Q _ => ∃ (u v x : V) (m t d : PyData), vs = [u, v, x] ∧ Dq K H u m ∧ Dq K H v t ∧ Dq K H x d ∧ Shrt t ∧ ∀ H', Same H H' → Q (.bl (fitsMode m t d)) H'
theorem scFits : FnScope ["mode", "target", "default"] ["mode", "target", "default"] (defScope sFits) := ⟨rfl, rfl, rfl, by decide +kernel, rfl, by decide +kernel, by decide +kernel⟩
theorem ok_fits {f f1 f2 f3 : Addr} {fd fd1 fd2 fd3 : FuncData} (F : Fun K "_fits_mode" "_fits_mode" sFits f fd) (C : Cn mg) (M : Mo K mg) (I : Known P w K mg base CX0 1 "is_integer" ["value"] (spIsInt K) f1 fd1)
    (D : Known P w K mg base CX0 2 "is_default" ["value"] (spIsDef K) f2 fd2) (N : Known P w K mg base CX0 1 "is_kind_name" ["value"] (spIsKind K) f3 fd3) : FnOk P w K mg base CX0 3 f fd ["mode", "target", "default"] (spFits K) := by
  obtain ⟨tm, _, _, _, mt, sq⟩ := M.modes
  refine F.ok scFits (fun vs H Q E h => ?_) (fun cdv A outer s H vs Q E hr h => ?_)
  · obtain ⟨u, v, x, m, t, d, rfl, _⟩ := h
    rfl
  · obtain ⟨u, v, x, m, t, d, rfl, qm, qt, qd, sh, k⟩ := h
    have hu1 : (A.deeper (PyProof.Rows.envOfC "_fits_mode" (defScope sFits) s.heap.objs.size f cdv)).units + 65 < cLine := by
      have := hr.un
      omega
    refine ⟨_, pss_cons (ps_if (pt_cmpR (op_eqTxt hr.units) (pv 0) pe_str (nomark _))
        (pss_one (ps_ret (pe_and (pe_cmpR op_isN (pv 1) pe_non (nomark _)) (pe_one (pe_call D.ok hr rfl D.mg D.kp D.bi .nil pass0 (pa_cons (pv 2) pa_nil)))))) pss_nil)
      (pss_cons (ps_if (PW.pt (pw_or (pt_cmpR (op_notInTxt hu1) (pv 0) (pe_glob (v := .ref tm) (by rfl) mt rfl) (by rfl))
          (pw_or (pt_not (pt_val (pe_call I.ok (hr.mono (by decide)) rfl I.mg I.kp I.bi .nil pass0 (pa_cons (pv 2) pa_nil)))) (pw_or1 (pt_cmpR op_ne (pv 2) pe_int (nomark _))))))
        (pss_one (ps_ret pe_bl)) pss_nil)
      (pss_one (ps_ret (pe_or (pe_cmpR (op_eqTxt hr.units) (pv 1) (pe_cn (by rfl) C.any) (nomark _)) (pe_one (pe_call N.ok (hr.mono (by decide)) rfl N.mg N.kp N.bi .nil pass0 (pa_cons (pv 1) pa_nil))))))), ?_⟩
    refine ⟨_, rfl, m, "mark", rfl, sh_mark, qm, _, rfl, ?_⟩
    cases e1 : isTxt m "mark" with
    | true =>
      refine ⟨_, rfl, rfl, _, rfl, ?_⟩
      rw [qt.non]
      have r := k H fun b o z => z
      simp only [fitsMode, e1, if_true] at r
      cases e2 : isNon t with
      | true =>
        refine ⟨_, rfl, x, d, rfl, qd, ?_⟩
        rw [e2, Bool.true_and] at r
        exact r
      | false =>
        rw [e2, Bool.false_and] at r
        exact r
    | false =>
      have ef : fitsMode m t d = ((isTxt m "link" || isTxt m "list") && isZero d && (isTxt t "any" || isKindName t)) := by
        simp only [fitsMode, e1]
        simp
      refine ⟨_, rfl, m, tm, ["link", "list"], rfl, sq H, sh_modes, qm, _, rfl, ?_⟩
      have ea : (["link", "list"] : List Str).any (fun z => isTxt m z) = (isTxt m "link" || isTxt m "list") := by simp
      rw [ea]
      cases e3 : (isTxt m "link" || isTxt m "list") with
      | false =>
        have r := k H fun b o z => z
        rw [ef, e3, Bool.false_and, Bool.false_and] at r
        exact r
      | true =>
        refine ⟨_, rfl, x, d, rfl, qd, _, rfl, ?_⟩
        cases e4 : isInt d with
        | false =>
          have r := k H fun b o z => z
          have e5 : isZero d = false := by cases d <;> first | rfl | cases e4
          rw [ef, e3, e5, Bool.true_and, Bool.false_and] at r
          exact r
        | true =>
          obtain ⟨i, rfl, rfl⟩ := qd.int_of e4
          refine ⟨_, rfl, rfl, _, rfl, ?_⟩
          cases e5 : decide (i = 0) with
          | false =>
            have r := k H fun b o z => z
            have e6 : isZero (.int i) = false := e5
            rw [ef, e3, e6, Bool.true_and, Bool.false_and] at r
            have e7 : decide (V.int i = V.int 0) = false := by
              refine decide_eq_false fun z => ?_
              injection z with z
              exact of_decide_eq_false e5 z
            rw [e7]
            exact r
          | true =>
            have e7 : i = 0 := of_decide_eq_true e5
            subst e7
            rw [decide_eq_true rfl]
            refine ⟨_, rfl, t, "any", rfl, sh_any, qt, _, rfl, ?_⟩
            have e8 : fitsMode m t (.int 0) = (isTxt t "any" || isKindName t) := by
              rw [ef, e3]
              rfl
            cases e9 : isTxt t "any" with
            | true =>
              have r := k H fun b o z => z
              rw [e8, e9, Bool.true_or] at r
              exact r
            | false =>
              refine ⟨_, rfl, v, t, rfl, qt, sh, fun H' sm => ?_⟩
              have r := k H' sm
              rw [e8, e9, Bool.false_or] at r
              exact r
end
end Wp
set_option Elab.async false
set_option linter.all false
set_option maxRecDepth 100000
set_option maxHeartbeats 4000000
namespace Wp
open PySem L2
theorem PI.or {X : Cx} {tg l : Expr} {a b : TI} (h : PI X tg l a) (h' : PI X tg l b) : PI X tg l (fun σ H R => a σ H R ∨ b σ H R) :=
  ⟨fun pins s σ H R I q => q.elim (h.run pins s σ H R I) (h'.run pins s σ H R I)⟩
theorem Same.refl (H : Hp) : Same H H := fun _ _ e => e
theorem Same.trans {H H1 H2 : Hp} (a : Same H H1) (b : Same H1 H2) : Same H H2 := fun c o e => b c o (a c o e)
/-- [f(x) for x in xs], what is called only makes things -/
theorem lc_grow {J : It} {G : Hp → Prop} {xs : List V} {f : Nat → V} {te : TE} {i : Nat} {σ : L2.St} {H : Hp} {D : Addr} {Q : Hp → Prop} (w : Walk J xs.length G (YAt xs)) (few : xs.length ≤ 1000) (hG : ∀ H', Same H H' → G H') (new : H D = none)
    (turn : ∀ (j : Nat) (x : V) (H1 : Hp) (R : VK), xs[j]? = some x → Same H H1 → (∀ H2, Same H1 H2 → R (f j) H2) → te ((σ.set i none).set i (some x)) H1 R)
    (k : ∀ H', Same H H' → H' D = some (.lst ((List.range xs.length).map f)) → Q H') :
    ∃ W : Nat → Nat → Hp → Prop, (∃ m, W 0 m (upd H D (.lst []))) ∧ ∀ j m H, W j m H →
      (J.stop j H ∧ Q H) ∨ (J.go j H ∧ ∃ Nx : Hp → Prop, (∀ H', Nx H' → ∃ m', m' < m ∧ W (j + 1) m' H') ∧ ∀ x H', J.yld j H x H' → gName i x (wipe σ [i]) H' fun σ2 H2 => wipe σ2 [i] = wipe σ [i] ∧ tYes σ2 H2 fun b H3 =>
        if b = true then te σ2 H3 fun y H4 => ∃ acc, H4 D = some (.lst acc) ∧ acc.length < sizeLine ∧ Nx (upd H4 D (.lst (acc ++ [y]))) else Nx H3) := by
  refine lc_it w (fun j H' => Same H H' ∧ H' D = some (.lst ((List.range j).map f))) ⟨same_new new, upd_same⟩ (fun j H' _ q => hG H' q.1) ?_ fun H' q => k H' q.1 q.2
  rintro j x H1 H2 hj ⟨sm, hD⟩ ⟨rfl, hx⟩
  refine ⟨by simp [wipe, List.set_set], turn j x H2 _ hx sm fun H3 s3 => ⟨_, s3 _ _ hD, ?_, ?_, ?_⟩⟩
  · rw [List.length_map, List.length_range, sizeLine_eq]
    omega
  · intro b o e
    by_cases z : b = D
    · rw [z, new] at e
      cases e
    · rw [upd_ne z]
      exact s3 _ _ (sm _ _ e)
  · rw [upd_same, List.range_succ, List.map_append]
    rfl
/-- the thing at a is as it was -/
def Stays (a : Addr) (H H' : Hp) : Prop := ∀ o, H a = some o → H' a = some o
theorem Stays.of {a : Addr} {H H' : Hp} (e : Same H H') : Stays a H H' := fun o q => e a o q
theorem Stays.sqL {K : PySem.W.Frag} {a : Addr} {H H' : Hp} {xs : List V} (e : Stays a H H') (h : SqL K H a xs) : SqL K H' a xs :=
  h.elim (fun h => .inl (h.elim (fun h => .inl (e _ h)) fun ⟨o, h⟩ => .inr ⟨o, e _ h⟩)) fun h => .inr h
theorem Stays.sqT {K : PySem.W.Frag} {a : Addr} {H H' : Hp} {xs : List V} (e : Stays a H H') (h : SqT K H a xs) : SqT K H' a xs :=
  h.elim (fun h => .inl (h.elim (fun h => .inl (e _ h)) fun ⟨o, h⟩ => .inr ⟨o, e _ h⟩)) fun h => .inr h
/-- over what slot i holds, a list or a tuple -/
def iSeqV (K : PySem.W.Frag) (i : Nat) : TI := fun σ H R => ∃ (a : Addr) (xs : List V), σ[i]? = some (some (.ref a)) ∧ (SqL K H a xs ∨ SqT K H a xs) ∧ ∀ (J : It) (G : Hp → Prop), Walk J xs.length G (YAt xs) → (∀ H', Stays a H H' → G H') → R J H
theorem pi_seqV {X : Cx} {tg l : Expr} {i : Nat} (h : PE X l (tVar i)) : PI X tg l (iSeqV X.K i) := by
  constructor
  rintro pins s σ H R I ⟨a, xs, e, sq, k⟩
  refine (PI.or (pi_list h) (pi_tup h)).run pins s σ H R I ?_
  rcases sq with sq | sq
  · exact .inl ⟨_, e, a, rfl, ⟨xs, sq⟩, k _ _ walk_list fun H' z => z.sqL sq⟩
  · exact .inr ⟨_, e, a, rfl, ⟨xs, sq⟩, k _ _ walk_tup fun H' z => z.sqT sq⟩
def seqOf : PyData → Option (List PyData)
  | .list ds => some ds
  | .tuple ds => some ds
  | _ => none
def txts : List PyData → List Str
  | [] => []
  | .str x :: r => x :: txts r
  | _ :: r => txts r
def wasRight (n : Str) (d : PyData) : Bool := match seqOf d with
  | some ds => decide (ds.length ≤ 2) && ds.all isFieldName && !(txts ds).contains n && decide (txts ds).Nodup
  | none => false
/-- no long text in it either -/
def ShrtS (d : PyData) : Prop := ∀ ds, seqOf d = some ds → ∀ x ∈ ds, Shrt x
theorem shaped_item {ds : List PyData} (h : SeqAt.shaped (.list ds) = true) : ∀ d ∈ ds, SeqAt.shaped d = true := by
  have key : ∀ ds : List PyData, PyData.canLayAll0 ds = true → ∀ n, PyData.depthAll ds ≤ n → ∀ d ∈ ds, d.canLay0 = true ∧ d.depth ≤ n := by
    intro ds
    induction ds with
    | nil => intro _ n _ d m; cases m
    | cons x r ih =>
      intro a n b d m
      simp only [PyData.canLayAll0, Bool.and_eq_true] at a
      simp only [PyData.depthAll] at b
      rcases List.mem_cons.mp m with rfl | m
      · exact ⟨a.1, by omega⟩
      · exact ih a.2 n (by omega) d m
  have h1 := SeqAt.canLay_of_shaped h
  have h2 : PyData.depthAll ds + 1 ≤ 64 := by
    have := SeqAt.depth_of_shaped h
    simpa only [PyData.depth] using this
  intro d m
  have q := key ds (by simpa only [PyData.canLay0] using h1) 63 (by omega) d m
  simp only [SeqAt.shaped, Bool.and_eq_true, decide_eq_true_eq]
  exact ⟨q.1, by omega⟩
theorem shaped_tup (ds : List PyData) : SeqAt.shaped (.tuple ds) = SeqAt.shaped (.list ds) := rfl
section
variable {K : PySem.W.Frag} {H : Hp}
theorem dpAll_get : ∀ {vs : List V} {ds : List PyData}, DpAll K H vs ds → vs.length = ds.length ∧ ∀ (j : Nat) (v : V), vs[j]? = some v → ∃ d, ds[j]? = some d ∧ Dp K H v d
  | _, _, .nil => ⟨rfl, fun j v e => by simp at e⟩
  | _, _, .cons (v := v) (d := d) a b => by
    obtain ⟨l, g⟩ := dpAll_get b
    refine ⟨by simp [l], fun j u e => ?_⟩
    cases j with
    | zero =>
      simp at e
      subst e
      exact ⟨d, rfl, a⟩
    | succ j => exact g j u (by simpa using e)
theorem dpAll_txts : ∀ {vs : List V} {ds : List PyData}, DpAll K H vs ds → ds.all isFieldName = true → vs = (txts ds).map V.str ∧ (txts ds).length = ds.length
  | _, _, .nil, _ => ⟨rfl, rfl⟩
  | _, _, .cons (d := d) a b, h => by
    rw [List.all_cons, Bool.and_eq_true] at h
    obtain ⟨e, l⟩ := dpAll_txts b h.2
    cases d with
    | str x =>
      cases a
      rw [e]
      exact ⟨rfl, by simp [txts, l]⟩
    | _ => exact absurd h.1 (by simp [isFieldName, isWordN])
/-- a list or tuple as data: its things -/
theorem Dq.seq {v : V} {d : PyData} {ds : List PyData} (q : Dq K H v d) (e : seqOf d = some ds) :
    ∃ (a : Addr) (vs : List V), v = .ref a ∧ ((SqL K H a vs ∧ d = .list ds) ∨ (SqT K H a vs ∧ d = .tuple ds)) ∧ DpAll K H vs ds ∧ ∀ x ∈ ds, SeqAt.shaped x = true := by
  cases d <;> cases e
  · cases q with
    | dat q sh =>
      cases q with
      | lst s a => exact ⟨_, _, rfl, .inl ⟨s, rfl⟩, a, shaped_item sh⟩
  · cases q with
    | dat q sh =>
      cases q with
      | tup s a => exact ⟨_, _, rfl, .inr ⟨s, rfl⟩, a, shaped_item (by rw [← shaped_tup]; exact sh)⟩
end
end Wp
set_option Elab.async false
set_option linter.all false
set_option maxRecDepth 100000
set_option maxHeartbeats 4000000
namespace Wp
open PySem L2
theorem boot_ttuple : bootBuiltins "tuple" = some (.type "tuple") := by decide +kernel
theorem range_map {α β : Type} (g : α → β) (d : α) (xs : List α) : (List.range xs.length).map (fun j => g (xs.getD j d)) = xs.map g := by
  apply List.ext_getElem
  · simp
  · intro j h1 h2
    simp at h1
    simp [h1]
theorem kit_seq {K : PySem.W.Frag} (d : PyData) : PySem.W.kitAny K (.type (tyN d)) [.type "list", .type "tuple"] = some (isLst d || isTup d) := by
  refine kitAny_cons (kit_list d) (fun h => ?_) (fun h => by rw [h]; rfl)
  rw [h, Bool.false_or]
  refine kitAny_cons (kit_tuple d) (fun h => ?_) (fun h => h)
  rw [h]
  rfl
theorem inV_txt (n : Str) (xs : List Str) : inV (.str n) (xs.map V.str) = xs.contains n := by
  induction xs with
  | nil => rfl
  | cons x xs ih =>
    have e : inV (.str n) (V.str x :: xs.map V.str) = (eqV (.str x) (.str n) || inV (.str n) (xs.map V.str)) := rfl
    rw [List.map_cons, e, ih, List.contains_cons]
    show ((x == n) || _) = ((n == x) || _)
    rw [str_beq_decide, str_beq_decide]
    congr 1
    by_cases z : x = n
    · simp [z]
    · rw [decide_eq_false z, decide_eq_false fun q => z q.symm]
section
variable {P : Program} {w : World} {K : PySem.W.Frag} {mg : Str → Option Value} {base : Heap}
abbrev sWas : Stmt := top 23
def spWas (K : PySem.W.Frag) : Sp := fun vs H Q _ => ∃ (n : Str) (v : V) (d : PyData), vs = [.str n, v] ∧ Dq K H v d ∧ ShrtS d ∧ ∀ H', Same H H' → Q (.bl (wasRight n d)) H'
theorem scWas : FnScope ["name", "was", "former"] ["name", "was"] (defScope sWas) := ⟨rfl, rfl, rfl, by decide +kernel, rfl, by decide +kernel, by decide +kernel⟩
theorem ok_was {f f1 f2 : Addr} {fd fd1 fd2 : FuncData} (F : Fun K "_is_was" "_is_was" sWas f fd) (B : Bn mg) (C : Cn mg) (N : Known P w K mg base CX0 2 "is_field_name" ["value"] (spIsField K) f1 fd1)
    (D : Known P w K mg base CX0 1 "are_different" ["names"] (spDiff K) f2 fd2) : FnOk P w K mg base CX0 3 f fd ["name", "was"] (spWas K) := by
  refine F.ok scWas (fun vs H Q E h => ?_) (fun cdv A outer s H vs Q E hr h => ?_)
  · obtain ⟨n, v, d, rfl, _⟩ := h
    rfl
  · obtain ⟨n, v, d, rfl, q, sh, k⟩ := h
    refine ⟨_, pss_cons (ps_if (PW.pt (pw_or (pt_not (pt_val (pe_callB call_isiT (by rfl) B.isi boot_isi (pa_cons (pv 1) (pa_cons (pe_tup (pa_cons (pe_bltn (v := .ty "list") (by rfl) B.list PyProof.Rows.boot_list rfl) (pa_cons (pe_bltn (v := .ty "tuple") (by rfl) B.tuple boot_ttuple rfl) pa_nil))) pa_nil)))))
          (pw_or1 (pt_cmpR op_gt (pe_callB call_len_seq (by rfl) B.len PySem.boot_len (pa_cons (pv 1) pa_nil)) (pe_cn (by rfl) C.old) (nomark _)))))
        (pss_one (ps_ret pe_bl)) pss_nil)
      (pss_cons (ps_if (pt_not (pt_val (pe_callB (cr_all rfl) (by rfl) B.all boot_all (pa_cons (pe_lc (own := [("former", 2)]) (g := gName 2) (tt := tYes) rfl scWas.nd (pi_seqV (i := 1) (pv 1))
          (blkOk_by (N := ["name", "was", "former"]) (sc := defScope sWas) (by decide +kernel)) (fun _ _ _ _ _ => pg_name (i := 2) scWas.nd rfl (Or.inl rfl)) (fun _ _ _ _ _ => pts_nil)
          (fun _ _ _ _ _ => pe_call N.ok hr rfl N.mg N.kp N.bi .nil pass0 (pa_cons (pv 2) pa_nil))) pa_nil))))
        (pss_one (ps_ret pe_bl)) pss_nil)
      (pss_one (ps_ret (pe_and (pe_cmpR op_notIn_seq (pv 0) (pv 1) (by rfl)) (pe_one (pe_call D.ok (hr.mono (by decide)) rfl D.mg D.kp D.bi .nil pass0 (pa_cons (pv 1) pa_nil))))))), ?_⟩
    refine ⟨_, rfl, by show 2 ≤ sizeLine; decide, fun T hT => ?_⟩
    have s1 : Same H (upd H T (.tup [.ty "list", .ty "tuple"])) := same_new hT
    have q1 := q.same s1
    refine ⟨v, T, [.ty "list", .ty "tuple"], _, [.type "list", .type "tuple"], _, rfl, upd_same, .cons (.ty _) (.cons (.ty _) .nil), q1.ty, kit_seq d, _, rfl, ?_⟩
    cases e : seqOf d with
    | none =>
      have e1 : (isLst d || isTup d) = false := by cases d <;> first | rfl | cases e
      have e2 : wasRight n d = false := by
        simp only [wasRight, e]
      rw [e1]
      have r := k _ s1
      rw [e2] at r
      exact r
    | some ds =>
      have e1 : (isLst d || isTup d) = true := by cases d <;> first | rfl | cases e
      rw [e1]
      obtain ⟨a, vs, rfl, sq, da, shp⟩ := q1.seq e
      have eW : wasRight n d = (decide (ds.length ≤ 2) && ds.all isFieldName && !(txts ds).contains n && decide (txts ds).Nodup) := by
        simp only [wasRight, e]
      obtain ⟨len, get⟩ := dpAll_get da
      have sq2 : SqL K (upd H T (.tup [.ty "list", .ty "tuple"])) a vs ∨ SqT K (upd H T (.tup [.ty "list", .ty "tuple"])) a vs := sq.imp And.left And.left
      refine ⟨_, rfl, a, vs, rfl, sq2, _, _, rfl, rfl, _, rfl, ?_⟩
      cases e2 : decide (2 < (vs.length : Int)) with
      | true =>
        have r := k _ s1
        have e3 : ¬ ds.length ≤ 2 := by
          have := of_decide_eq_true e2
          omega
        rw [eW, decide_eq_false e3, Bool.false_and, Bool.false_and, Bool.false_and] at r
        exact r
      | false =>
        have e3 : ds.length ≤ 2 := by
          have := of_decide_eq_false e2
          omega
        refine ⟨a, vs, rfl, sq2, fun J G w hG D0 hD0 => ?_⟩
        refine lc_grow (f := fun j => V.bl (isFieldName (ds.getD j .none))) w (by omega) (fun H' z => hG H' (.of z)) hD0 ?_ ?_
        · intro j x H1 R hx sm k1
          obtain ⟨d1, g1, g2⟩ := get j x hx
          have m1 : d1 ∈ ds := List.mem_of_getElem? g1
          refine ⟨_, rfl, x, d1, rfl, .dat (dp_same sm g2) (shp _ m1), sh ds e _ m1, fun H2 s2 => ?_⟩
          have r := k1 H2 s2
          rw [List.getD_eq_getElem?_getD, g1] at r
          exact r
        · intro H' s2 hL
          have s3 : Same H H' := s1.trans s2
          rw [show (List.range vs.length).map (fun j => V.bl (isFieldName (ds.getD j .none))) = (ds.map isFieldName).map V.bl by rw [len, List.map_map, ← range_map (V.bl ∘ isFieldName) .none ds]; rfl] at hL
          refine ⟨D0, ds.map isFieldName, rfl, SqL.of hL, _, rfl, ?_⟩
          have e4 : (ds.map isFieldName).all id = ds.all isFieldName := by simp [List.all_map, Function.comp_def]
          rw [e4]
          cases e5 : ds.all isFieldName with
          | false =>
            have r := k _ s3
            rw [eW, e5, Bool.and_false, Bool.false_and, Bool.false_and] at r
            exact r
          | true =>
            obtain ⟨e6, e7⟩ := dpAll_txts da e5
            subst e6
            have sq3 : SqL K H' a ((txts ds).map V.str) ∨ SqT K H' a ((txts ds).map V.str) := sq2.imp (sqL_same s2) (sqT_same s2)
            refine ⟨_, rfl, _, rfl, a, _, rfl, sq3, rfl, by simp [flatV], ?_⟩
            refine ⟨_, rfl, ?_⟩
            rw [if_pos rfl, inV_txt]
            cases e8 : (txts ds).contains n with
            | true =>
              have r := k _ s3
              rw [eW, e8, Bool.not_true, Bool.and_false, Bool.false_and] at r
              exact r
            | false =>
              refine ⟨_, rfl, a, txts ds, rfl, ⟨sq3, by omega⟩, ?_⟩
              have r := k _ s3
              rw [eW, e5, e8, decide_eq_true e3] at r
              exact r
end
end Wp
set_option Elab.async false
set_option linter.all false
set_option maxRecDepth 100000
set_option maxHeartbeats 4000000
namespace Wp
open PySem L2 PySem.Spec PyProof.Rows
/-! ## defs that are called where no repr is on its way: the promise of a def may then lean on it -/
structure GOk (P : Program) (w : World) (K : PySem.W.Frag) (mg : Str → Option Value) (bs : Heap)
    (CX : CXT) (k : Nat) (f : Addr) (fd : FuncData) (ps : List Str) (sp : Sp) : Prop where
  len : ∀ ys H Q E, sp ys H Q E → ys.length = ps.length
  run : ∀ (A : Around) (out : List Env) (s : Shared) (H : Hp) (ar : Args) (us : List Value) (ys : List V) (Q : VK) (E : XK),
    A.guards = some [] → Room k A → Env0 P w K mg bs A out s H → BindsTo s fd ar (ps.zip us) →
    Vals ys us → sp ys H Q E → codeAny (model P w) A (.call (.ref f) ar) (CR CX out P w H s Q E) s
theorem gok_of {CX : CXT} {P : Program} {w : World} {K : PySem.W.Frag} {mg : Str → Option Value} {bs : Heap} {k : Nat} {f : Addr} {fd : FuncData} {x qual : Str} {st : Stmt} {N ps : List Str} {sp : Sp}
    (F : Fun K x qual st f fd) (S : FnScope N ps (defScope st)) (len : ∀ ys H Q E, sp ys H Q E → ys.length = ps.length)
    (body : ∀ (cd : Value) (A : Around) (out : List Env) (s : Shared) (H : Hp) (ys : List V) (Q : VK) (E : XK),
      (A.deeper (envOfC qual (defScope st) s.heap.objs.size f cd)).guards = some [] → Room k (A.deeper (envOfC qual (defScope st) s.heap.objs.size f cd)) → sp ys H Q E →
      ∃ t, PSs (cxOf CX P w K mg bs N qual (defScope st) f cd A out s H E) (defBody st) t ∧
        t { nx := fun _ H' => Q .non H', rt := Q } (start N ys) H) : GOk P w K mg bs CX (k + 1) f fd ps sp := by
  obtain ⟨oc, od, kV, doc, pm, an, cd, ct, osl, rfl, lk, hcd⟩ := F.ex
  constructor
  · exact len
  · intro A out s H ar us ys Q E hG hR e0 hB hV hP
    have hLen := len _ _ _ _ hP
    have inK : K.In s.heap := e0.mod.kin.keeps fun b o e => (e0.bs b o e).1
    have noL : s.heap.NoLimit := e0.mod.nolimit.keeps fun b o e => (e0.bs b o e).1
    have kinds : ∀ y ∈ ps.zip us, (defScope st).names.lookup y.1 = some .local ∨
        ((defScope st).names.lookup y.1 = some .cell ∧ ((cellsFrom (s.heap.objs.size + 1) (defScope st).names []).lookup y.1).isSome = true) := by
      intro y hy
      obtain ⟨n, v⟩ := y
      cases S.par n (List.of_mem_zip hy).1 with
      | inl z => exact Or.inl z
      | inr z => exact Or.inr ⟨z, PySem.W.cellsFrom_some _ _ _ (Or.inl z)⟩
    apply codeAny_call_function hR.depth (inK _ _ lk) rfl S.co S.gen rfl (PySem.W.codeRec_of inK hcd)
    apply hB
    refine wpAny_newFunctionEnv_cells S.kind kinds ?_
    intro env ee s1 hin
    subst ee
    refine ⟨noL.keeps hin.toInCall.keep, ?_⟩
    apply codeAny_func
    obtain ⟨t, ht, hq⟩ := body cd A out s H ys Q E hG (hR.deeper _) hP
    have J : Inv (cxOf CX P w K mg bs N qual (defScope st) f cd A out s H E) [] (start N ys) H s1 := inv_start S hR.hd e0 hLen hV hin
    refine wpAny_mono (ht.run [] s1 (start N ys) H _ J hq) ?_ (fun _ _ z => z)
    intro fl s2 hs
    cases fl with
    | ret u =>
      obtain ⟨v, σ2, H2, J2, rv, q⟩ := hs
      exact ⟨v, H2, J2.os, J2.bare, J2.base, J2.hok, rv, q⟩
    | next =>
      obtain ⟨σ2, H2, J2, q⟩ := hs
      exact ⟨V.non, H2, J2.os, J2.bare, J2.base, J2.hok, rfl, q⟩
    | brk =>
      obtain ⟨_, _, _, q⟩ := hs
      exact q.elim
    | cont =>
      obtain ⟨_, _, _, q⟩ := hs
      exact q.elim
section
variable {X : Cx} {CX : CXT} {k : Nat} {f : Addr} {fd : FuncData} {ps : List Str} {sp : Sp} {E : XK} {x : Str} {p pos : Pos} {e : Expr} {es : List Expr} {t : TA}
/-- f(e, ..) of such a def -/
theorem pe_callG (hG : X.A.guards = some []) (F : GOk X.prog X.w X.K X.mg X.base CX k f fd ps sp) (hr : Room k X.A) (hg : Gl X x) (hm : X.mg x = some (.ref f)) (hk : PySem.W.keepIn X.K (.ref f) = true)
    (hb : Binds X.K fd ps []) (hx : Passes CX X E) (ha : PA X (e :: es) t) (hdb : (x == ("__debug__" : Str)) = false := by decide)
    (he : starEach (e :: es) X.env = (false, eval e X.env) :: starEach es X.env := by rfl) (hpl : (backTo pos (starEach es X.env)).any (·.1) = false := by rfl) :
    PE X (.Call (.Name x p) (e :: es) [] pos) (tCall sp [] E t) := by
  constructor
  intro pins s σ H Q I h
  apply wpAny_Call_Name_kw
  refine ld_glob I hg hm ?_ hdb
  refine PySem.W.callWith_K (h₀ := X.base) I.ok.mod.kin hk ?_ he hpl
  refine thn (ha.run pos pins s σ H _ I h) ?_
  intro us s1 hh
  obtain ⟨ys, H1, I1, rv, q⟩ := hh
  refine ⟨I1.kIn, ?_⟩
  rw [List.append_nil] at q
  have hl : us.length = ps.length := by
    rw [← rv.length]
    exact F.len _ _ _ _ q
  have hb1 := hb s1 us I1.kIn (by simpa using hl)
  rw [List.append_nil] at hb1
  apply wpAny_call
  refine codeAny_mono (F.run X.A X.stack s1 H1 ⟨us, []⟩ us ys Q E hG hr I1.env0 hb1 rv q) ?_
  intro r s2 hq
  cases r with
  | error z => exact hx pins σ H1 s1 z s2 I1 hq
  | ok fl =>
    cases fl with
    | ret u => exact I1.after hq
    | next => exact hq.elim
    | brk => exact hq.elim
    | cont => exact hq.elim
/-- repr(x) of data -/
def rRepr (K : PySem.W.Frag) : List V → Hp → VK → Prop := fun xs H Q => ∃ (a : Addr) (d : PyData), xs = [.ref a] ∧ Dp K H (.ref a) d ∧ d.showable = true ∧ d.hasDict = false ∧ d.depth ≤ 10 ∧ d.shown.length ≤ sizeLine ∧ Q (.str d.shown) H
theorem call_repr (hG : X.A.guards = some []) (hu : X.A.units + 20 < cLine) : CallR X (.builtin "repr") (rRepr X.K) := by
  intro pins s σ H xs us Q I r h
  obtain ⟨a, d, rfl, hd, h1, h2, h3, h4, q⟩ := h
  obtain ⟨u, rfl, rx⟩ := vals1 r
  cases (show u = Value.ref a from rx)
  obtain ⟨as, rd⟩ := Dp.reads I d _ _ hd rfl
  refine PySem.repr_of_reads' rd h1 (PyData.noDict_hsm h2) hG (by omega) (fun _ _ e => e) ?_ h4
  intro h' u tk hk
  exact ⟨.str d.shown, H, I.kept hk, ⟨_, rfl⟩, q⟩
end
/-! ## the law's own call, for a promise that leans on the empty list of guards -/
theorem law_start {P : Program} {w : World} {K : PySem.W.Frag} {mg mb : Str → Option Value} {CX : CXT} {k : Nat} {fa a : Addr} {fd : FuncData} {x : Str} {sp : Sp} {s0 : Shared} {vs : List Value} {ns : List Int}
    (hK : K.In s0.heap) (hN : s0.heap.Ns mainGlobals mg) (hB : s0.heap.Ns builtinsNs mb) (hBB : ∀ y : Str, y ≠ "__name__" → mb y = bootBuiltins y) (hL : s0.heap.NoLimit) (hg : s0.gens = #[])
    (hA : s0.heap.get? a = some { cls := .type "list", data := .seq vs.toArray }) (hI : IntsAre vs ns) (hz : ns.length ≤ sizeLine) (hR : Room k callerA)
    (F : ∀ bs : Heap, K.In bs → bs.Ns mainGlobals mg → GOk P w K mg bs CX k fa fd [x] sp) (hbind : ∀ (s : Shared) (u : Value), BindsTo s fd ⟨[u], []⟩ [(x, u)])
    (hsp : ∀ H : Hp, Only H → SqL K H a (ns.map V.int) → sp [.ref a] H (fun v _ => v = .bl true) fun _ _ _ => False)
    (hCX : ∀ H e s', CX [] H s0 (fun _ _ _ => False) e s' → False) :
    codeAny (model P w) callerA (.call (.ref fa) ⟨[.ref a], []⟩) (fun r s' => r = .ok (.ret (.bool true)) ∧ OldK s0.heap s'.heap ∧ s'.os = s0.os ∧ AllBare s'.gens) s0 := by
  have vI := vals_ints hI
  have lI := hI.length
  have main : ∀ H : Hp, Only H → SqL K H a (ns.map V.int) → HOk P w H s0.heap → (∀ b, H b ≠ none → b = a) → (H a ≠ none → K.lookup a = none) →
      codeAny (model P w) callerA (.call (.ref fa) ⟨[.ref a], []⟩)
        (fun r s' => r = .ok (.ret (.bool true)) ∧ OldK s0.heap s'.heap ∧ s'.os = s0.os ∧ AllBare s'.gens) s0 := by
    intro H oH sH okH onA outK
    have low : ∀ {b : Addr} {o : Obj}, s0.heap.get? b = some o → H b = none → (hidT s0.heap H).get? b = some o := fun e n => hidT_get e n
    have free : ∀ {b : Addr} {o : Obj} {es : Array DictEntry} {ep : Nat}, s0.heap.get? b = some o → o.data = .dict es ep → H b = none := by
      intro b o es ep e d
      cases q : H b with
      | none => rfl
      | some u =>
        have eb : b = a := onA b (by rw [q]; simp)
        rw [eb, hA] at e
        cases e
        cases (show Data.seq vs.toArray _ = Data.dict es ep from d)
    have nsOf : ∀ {b : Addr} {m : Str → Option Value}, s0.heap.Ns b m → (hidT s0.heap H).Ns b m := by
      intro b m hn
      obtain ⟨o, es, ep, e, d, r⟩ := hn
      exact ⟨o, es, ep, low e (free e d), d, r⟩
    have inB : K.In (hidT s0.heap H) := by
      intro b o e
      refine low (hK b o e) ?_
      cases q : H b with
      | none => rfl
      | some u =>
        have eb : b = a := onA b (by rw [q]; simp)
        rw [eb, outK (by rw [← eb, q]; simp)] at e
        cases e
    have hLim : (hidT s0.heap H).NoLimit := by
      obtain ⟨mc, z1, z2⟩ := hL
      exact ⟨mc, nsOf z1, z2⟩
    have md : Mod K mg (hidT s0.heap H) := ⟨inB, nsOf hN, ⟨mb, nsOf hB, hBB⟩, hLim⟩
    have e0 : Env0 P w K mg (hidT s0.heap H) callerA [] s0 H := {
      frames := rfl
      mod := md
      bs := fun b o e => of_hidT e
      bsz := Nat.le_of_eq (hidT_size _ _)
      funs := trivial
      frf := fun b hb => by cases (show b ∈ ([] : List Addr) from hb)
      hok := okH
      bare := .of_eq hg }
    have run := (F _ inB (nsOf hN)).run callerA [] s0 H ⟨[.ref a], []⟩ [.ref a] [.ref a] _ _ rfl hR e0 (hbind s0 (.ref a)) (.cons rfl .nil) (hsp H oH sH)
    refine codeAny_mono run ?_
    intro r s' h
    cases r with
    | error e => exact (hCX H e s' h).elim
    | ok fl =>
      cases fl with
      | ret u =>
        obtain ⟨v, H', os, bare, un, okH', rv, q⟩ := h
        have ev : v = .bl true := q
        rw [ev] at rv
        have eu : u = Value.bool true := rv
        rw [eu]
        refine ⟨rfl, OldK.of_keep ?_, os, bare⟩
        intro b o e
        cases q : H b with
        | none => exact un.keep b o e q (fun z => by cases (show b ∈ ([] : List Addr) from z)) (fun z => by cases z)
        | some z =>
          cases oH b with
          | inl y =>
            rw [q] at y
            cases y
          | inr y =>
            obtain ⟨ob, xs, y⟩ := y
            have y2 := (okH' b _ (un.frzs b ob _ y)).1
            have y1 := (okH b _ y).1
            rw [e] at y1
            cases y1
            exact y2
      | next => exact h.elim
      | brk => exact h.elim
      | cont => exact h.elim
  cases hk : K.lookup a with
  | some o =>
    have e := hK a o hk
    rw [hA] at e
    cases e
    refine main (fun _ => none) (fun _ => .inl rfl) (.inr ⟨_, vs.toArray, _, hk, rfl, rfl, rfl, ?_, by simpa using vI⟩) ?_ (fun b z => absurd rfl z) fun z => absurd rfl z
    · rw [List.size_toArray, lI]
      exact hz
    · intro b u z
      cases (show (none : Option HO) = some u from z)
  | none =>
    let ob : Obj := { cls := .type "list", data := .seq vs.toArray }
    refine main (fun b => if b = a then some (.frz ob (.lst (ns.map V.int))) else none) ?_ (.inl (.inr ⟨ob, if_pos rfl⟩)) ?_ ?_ fun _ => hk
    · intro b
      by_cases hb : b = a
      · exact .inr ⟨ob, _, if_pos hb⟩
      · exact .inl (if_neg hb)
    · intro b u z
      by_cases hb : b = a
      · have z2 := (if_pos hb).symm.trans z
        cases z2
        subst hb
        refine ⟨hA, ?_, vs, _, vI, hA⟩
        rw [List.length_map]
        exact hz
      · have z2 := (if_neg hb).symm.trans z
        cases z2
    · intro b z
      by_cases hb : b = a
      · exact hb
      · exact absurd (if_neg hb) z
theorem walkG {l : PySem.W.OpenLaw} {n k : Nat} {q : Program} {loose : List Str} {XP : (Str → Option Value) → Heap → Prop} {YP : World → Heap → Prop} {d : DefRec} {K : Params → PySem.W.Frag} {sp : PySem.W.Frag → Sp} {x : Str}
    (hn : l.most = some n) (hn2 : n ≤ sizeLine) (hdf : d.params.defaults = []) (hr : Room k callerA) (hY : ∀ (w : World) (h : Heap), YP w h → (K w.params).In h)
    (F : ∀ (w : World) (mg : Str → Option Value) (fa : Addr) (h : Heap), (K w.params).In h → h.Ns mainGlobals mg → mg d.name = some (.ref fa) →
      ∃ fd : FuncData, (∀ (s : Shared) (u : Value), BindsTo s fd ⟨[u], []⟩ [(x, u)]) ∧
        ∀ bs : Heap, (K w.params).In bs → bs.Ns mainGlobals mg → GOk l.prog w (K w.params) mg bs CX0 k fa fd [x] (sp (K w.params)))
    (hsp : ∀ (K : PySem.W.Frag) (H : Hp) (a : Addr) (ns : List Int), ns.length ≤ n → Only H → SqL K H a (ns.map V.int) → sp K [.ref a] H (fun v _ => v = .bl true) fun _ _ _ => False) :
    PySem.W.WalkO q loose XP YP l.row.toRowW d [] (fun f vs => PySem.call f vs) := by
  apply Att.attach_call hn hdf
  intro w s₀ s₁ mg mb fa o pm cd doc a vs ns G Y ho hd hcd hmg hobj hints hlen hg
  have inK := hY w _ Y
  obtain ⟨fd, hb, hF⟩ := F w mg fa _ inK G.T.g hmg
  exact law_start inK G.T.g G.T.b G.T.builtins G.T.nolimit hg hobj hints (Nat.le_trans hlen hn2) hr hF hb (fun H hO hS => hsp _ H a ns hlen hO hS) fun H e s' z => z.elim
/-! ## exceptions as values -/
/-- C(e, ..) as a value, by the promise of C's own __init__ -/
def tMkx (C : Addr) (sp : Sp) (ta : TA) : TE := fun σ H Q => ta σ H fun vs H1 => vs.length ≤ 1000 ∧ ∀ a, H1 a = none →
  sp (.ref a :: vs) (upd H1 a (exo a C none)) (fun v H2 => v = .non ∧ Q (.ref a) H2) (fun _ _ _ => False)
section
variable {X : Cx} {CX : CXT} {x : Str} {C fI : Addr} {k : Nat} {fd : FuncData} {ps : List Str} {sp : Sp} {e : Expr} {es : List Expr} {ta : TA} {p pos : Pos}
theorem run_mkx {pins : List (Addr × Obj)} {σ : L2.St} {H : Hp} {s : Shared} {Q : VK} {us : List Value} {vs : List V} (T : OexC X.K C) (iC : PySem.W.findIn X.K (.ref C) "__init__" = some (some (.ref fI)))
    (tI : PySem.W.typeIn X.K (.ref fI) = some (.type "function")) (FI : FnOk X.prog X.w X.K X.mg X.base CX k fI fd ps sp) (hr : Room (k + 1) X.A) (hb : Binds X.K fd ps []) (hx : Passes CX X (fun _ _ _ => False))
    (I : Inv X pins σ H s) (r : Vals vs us) (hz : vs.length ≤ 1000)
    (h : ∀ a, H a = none → sp (.ref a :: vs) (upd H a (exo a C none)) (fun v H2 => v = .non ∧ Q (.ref a) H2) (fun _ _ _ => False)) :
    wpAny (model X.prog X.w) X.A (call (.ref C) us) (EP X pins σ Q) X.xe s := by
  obtain ⟨nm, q, N, bs, bm, sn, sub, ab, col, dd, k0, k1, k2, k3, k5, hC, hbm⟩ := T.cls
  obtain ⟨hp, g, dr, tk, os⟩ := s
  have hsz : hp.objs.size ≤ hp.objs.size + 1 := Nat.le_succ _
  have hq := h (hp.objs.size + 1) (I.hok.fresh hsz)
  have keep : ∀ b o, hp.get? b = some o → ((hp.push (PySem.W.kdv_tup us)).push (PySem.HandSPX.excO C hp.objs.size)).get? b = some o :=
    fun b o z => Heap.get?_push_of_some _ (Heap.get?_push_of_some _ z)
  have there : ((hp.push (PySem.W.kdv_tup us)).push (PySem.HandSPX.excO C hp.objs.size)).get? (hp.objs.size + 1) = some (PySem.HandSPX.excO C hp.objs.size) := by heap_get
  have I2 := I.laid (t' := tk) (a := hp.objs.size + 1) (o := exo (hp.objs.size + 1) C none) keep hsz (exo_ok there)
  have r2 : Vals (V.ref (hp.objs.size + 1) :: vs) (Value.ref (hp.objs.size + 1) :: us) := .cons rfl r
  have hl : (Value.ref (hp.objs.size + 1) :: us).length = ps.length := by
    rw [← r2.length]
    exact FI.len _ _ _ _ hq
  have hus : us.length ≤ sizeLine := by
    rw [← r.length, sizeLine_eq]
    omega
  have b2 := hb ⟨(hp.push (PySem.W.kdv_tup us)).push (PySem.HandSPX.excO C hp.objs.size), g, dr, tk, os⟩ (Value.ref (hp.objs.size + 1) :: us) I2.kIn (by simpa using hl)
  rw [List.append_nil] at b2
  apply wpAny_call
  refine PySem.HandSPX.call_own F.excBase_ValueError (fun Y => PySem.HandSPX.refsVE_contains Y bm hbm) (I.kIn _ _ hC) (PySem.W.looks_findIn I.kIn iC) (fun self => PySem.W.bind_fn I.kIn self tI) hus ?_
  refine codeAny_mono (FI.run _ X.stack _ _ ⟨Value.ref (hp.objs.size + 1) :: us, []⟩ (Value.ref (hp.objs.size + 1) :: us) _ _ (fun _ _ _ => False) (hr.make C us []) (I2.env0.make C us []) b2 r2 hq) ?_
  intro y s2 hy
  cases y with
  | error er => exact hx pins σ _ _ er s2 I2 hy
  | ok fl =>
    cases fl with
    | ret u =>
      obtain ⟨v, H2, os2, bare2, un2, hok2, rv, ev, q2⟩ := hy
      rw [ev] at rv
      exact ⟨rv, I2.after ⟨.ref (hp.objs.size + 1), H2, os2, bare2, un2, hok2, rfl, q2⟩⟩
    | next => exact hy.elim
    | brk => exact hy.elim
    | cont => exact hy.elim
theorem pe_mkx (T : OexC X.K C) (iC : PySem.W.findIn X.K (.ref C) "__init__" = some (some (.ref fI))) (tI : PySem.W.typeIn X.K (.ref fI) = some (.type "function")) (FI : FnOk X.prog X.w X.K X.mg X.base CX k fI fd ps sp)
    (hr : Room (k + 1) X.A) (hb : Binds X.K fd ps []) (hx : Passes CX X (fun _ _ _ => False)) (hg : Gl X x) (hm : X.mg x = some (.ref C)) (ha : PA X (e :: es) ta)
    (hdb : (x == ("__debug__" : Str)) = false := by decide) (he : starEach (e :: es) X.env = (false, eval e X.env) :: starEach es X.env := by rfl) (hpl : (backTo pos (starEach es X.env)).any (·.1) = false := by rfl) :
    PE X (.Call (.Name x p) (e :: es) [] pos) (tMkx C sp ta) := by
  constructor
  intro pins s σ H Q I h
  apply wpAny_Call_Name_kw
  refine ld_glob I hg hm ?_ hdb
  refine PySem.W.callWith_K (h₀ := X.base) I.ok.mod.kin T.kC ?_ he hpl
  refine thn (ha.run pos pins s σ H _ I h) ?_
  intro us s1 hh
  obtain ⟨vs, H1, I1, rv, hz, q⟩ := hh
  exact ⟨I1.kIn, run_mkx T iC tI FI hr hb hx I1 rv hz q⟩
/-- C() of a class without an own __init__ -/
theorem pe_mkx0 {bmB : List Value} {B newId initId : String} (FB : ExcBaseFacts B newId initId bmB) (q : PySem.W.excIn X.K C bmB newId = true) (gC : X.mg x = some (.ref C)) (kC : PySem.W.keepIn X.K (.ref C) = true) (hg : Gl X x)
    (hdb : (x == ("__debug__" : Str)) = false := by decide) : PE X (.Call (.Name x p) [] [] pos) (fun _ H Q => ∀ a, H a = none → Q (.ref a) (upd H a (exo a C none))) := by
  constructor
  intro pins s σ H Q I h
  apply wpAny_Call_Name_kw
  refine ld_glob I hg gC ?_ hdb
  refine PySem.W.callWith_K0 I.kIn kC ?_
  obtain ⟨bm, N, nm, qn, bs, hdct, sn, sub, ab, col, dd, k0, k1, k2, k3, k5, mN, hC, hN, hni, T⟩ := exc_obj I.kIn q
  refine wpAny_call_exc_subT FB T hC hN hni (fun h' a hm => ?_) (by show 0 ≤ sizeLine; exact Nat.zero_le _)
  have hn := I.hok.gone hm.new
  obtain ⟨t, ht, _, _⟩ := hm.there
  exact ⟨.ref a, _, I.laidN hm.keeps hm.new hn (exo_ok ht), rfl, h a hn⟩
/-- e.f of an exception that is held as a value -/
def tXv (K : PySem.W.Frag) (f : Str) (te : TE) : TE := fun σ H Q => te σ H fun x H1 => ∃ (a C d : Addr) (fs : List (Str × V)) (v : V), x = .ref a ∧ ExcC K C ∧ PySem.W.findIn K (.ref C) f = some none ∧
  H1 a = some (exo a C (some d)) ∧ H1 d = some (exd d fs) ∧ fs.lookup f = some v ∧ Q v H1
theorem pe_xv {te : TE} {n : Str} (he : PE X e te) (hb : attributeBase e n X.env (eval e X.env) = eval e X.env := by rfl) : PE X (.Attribute e n pos) (tXv X.K n te) := by
  constructor
  intro pins s σ H Q I h
  refine attr_of hb (thn (he.run pins s σ H _ I h) ?_)
  intro u s1 hh
  obtain ⟨x, H1, I1, rx, a, C, d, fs, v, ex, T, hno, ea, ed, l, q⟩ := hh
  subst ex
  obtain rfl : u = Value.ref a := rx
  obtain ⟨t1, ho⟩ := exo_at I1.hok ea
  obtain ⟨mA, hns, hr⟩ := exd_at I1.hok ed
  obtain ⟨od, hod, hl⟩ := lookIn_ns hns
  obtain ⟨w', hw, rw'⟩ := RelO.some_of (v := v) (o := mA n) (by rw [← l]; exact hr n)
  have J : PySem.W.InstAt s1.heap a _ C (some od) := ⟨ho, rfl, rfl, hod⟩
  exact HandSPX.exc_get I1.kIn J T.hg T.hk T.hs (PySem.W.findObj_own T.hd hno rfl (by rw [hl, hw])) (handed_of rw') ⟨v, H1, I1.tok _, rw', q⟩
/-- isinstance(x, c), x such an exception (with its dict or without) -/
def rIsx (K : PySem.W.Frag) : List V → Hp → VK → Prop := fun xs H Q => ∃ (a C : Addr) (d : Option Addr) (c : V) (cv : Value) (b : Bool), xs = [.ref a, c] ∧ ClsV c cv ∧ ExcC K C ∧
  H a = some (exo a C d) ∧ (∀ dx, d = some dx → ∃ fs, H dx = some (exd dx fs)) ∧ PySem.W.kitOne K (.ref C) cv = some b ∧ Q (.bl b) H
theorem call_isx : CallR X (.builtin "isinstance") (rIsx X.K) := by
  intro pins s σ H xs us Q I r h
  obtain ⟨a, C, d, c, cv, b, rfl, kc, T, ea, ed, e, q⟩ := h
  obtain ⟨u1, u2, rfl, r1, r2⟩ := vals2 r
  cases (show u1 = Value.ref a from r1)
  have e2 := kc.eq r2
  subst e2
  obtain ⟨t1, ho⟩ := exo_at I.hok ea
  obtain ⟨cd, hcd, _⟩ := PySem.W.any_some T.hd
  have hcl : (PySem.W.clsIn X.K C).isSome = true := by rw [hcd]; rfl
  have fin : ∀ od, PySem.W.InstAt s.heap a { cls := .ref C, dict := d, data := .fields #[.ref t1, .none, .none, .none, .bool false, .none] } C od → wpAny (model X.prog X.w) X.A (call (.builtin "isinstance") [.ref a, u2]) (EP X pins σ Q) X.xe s :=
    fun od J => PySem.W.kia_one (PySem.W.kitx_exc hcl T.hg T.hk T.hs T.ha T.hn T.ht T.hm) I.kIn J e (fun z => nomatch z) fun tk => ⟨.bl b, H, I.tok tk, rfl, q⟩
  cases d with
  | none => exact fin none ⟨ho, rfl, rfl, trivial⟩
  | some dx =>
    obtain ⟨fs, hd⟩ := ed dx rfl
    obtain ⟨mA, hns, _⟩ := exd_at I.hok hd
    obtain ⟨od, hod, _⟩ := lookIn_ns hns
    exact fin (some od) ⟨ho, rfl, rfl, hod⟩
end
/-! ## the errors' own __init__, and what they leave -/
/-- behind C(v, ..): the error at a, its dict at d -/
def exH (H : Hp) (a C d : Addr) (fs : List (Str × V)) : Hp := upd (upd H d (exd d fs)) a (exo a C (some d))
theorem exH_a {H : Hp} {a C d : Addr} {fs : List (Str × V)} : exH H a C d fs a = some (exo a C (some d)) := upd_same
theorem exH_d {H : Hp} {a C d : Addr} {fs : List (Str × V)} (h : d ≠ a) : exH H a C d fs d = some (exd d fs) := by
  unfold exH
  rw [upd_ne h, upd_same]
theorem exH_ne {H : Hp} {a C d b : Addr} {fs : List (Str × V)} (h1 : b ≠ a) (h2 : b ≠ d) : exH H a C d fs b = H b := by
  unfold exH
  rw [upd_ne h1, upd_ne h2]
theorem exH_same {H : Hp} {a C d : Addr} {fs : List (Str × V)} (h1 : H a = none) (h2 : H d = none) : Same H (exH H a C d fs) := fun b o e => by
  rw [exH_ne (ne_of_none e h1) (ne_of_none e h2)]
  exact e
theorem exH_over {H : Hp} {a C d : Addr} {fs : List (Str × V)} {o : HO} : upd (upd (upd H a o) d (exd d fs)) a (exo a C (some d)) = exH H a C d fs := by
  funext b
  unfold exH
  by_cases h1 : b = a
  · rw [h1, upd_same, upd_same]
  · rw [upd_ne h1, upd_ne h1]
    by_cases h2 : b = d
    · rw [h2, upd_same, upd_same]
    · rw [upd_ne h2, upd_ne h2, upd_ne h1]
def spI1 (C : Addr) (f : Str) : Sp := fun vs H Q _ => ∃ (a : Addr) (v : V), vs = [.ref a, v] ∧ H a = some (exo a C none) ∧ ∀ dx, H dx = none → dx ≠ a → Q .non (upd (upd H dx (exd dx [(f, v)])) a (exo a C (some dx)))
def spI2 (C : Addr) (f g : Str) : Sp := fun vs H Q _ => ∃ (a : Addr) (v y : V), vs = [.ref a, v, y] ∧ H a = some (exo a C none) ∧ ∀ dx, H dx = none → dx ≠ a → Q .non (upd (upd H dx (exd dx [(g, y), (f, v)])) a (exo a C (some dx)))
section
variable {P : Program} {w : World} {K : PySem.W.Frag} {mg : Str → Option Value} {base : Heap}
theorem ok_init1 {st : Stmt} {q f : Str} {C fa : Addr} {fd : FuncData} {p1 p2 p3 p4 : Pos} (F : Fun K "__init__" q st fa fd) (hb : defBody st = [.Assign [.Attribute (.Name "self" p1) f p2] (.Name f p3) p4])
    (S : FnScope ["self", f] ["self", f] (defScope st)) (hs : (defScope st).names.lookup ("self" : Str) = some NameKind.local) (hl : (defScope st).names.lookup f = some NameKind.local) (hd : (f == ("__debug__" : Str)) = false) (hc : (f == ("__classdict__" : Str)) = false)
    (T : OexC K C) (hno : PySem.W.findIn K (.ref C) f = some none) : FnOk P w K mg base CX0 1 fa fd ["self", f] (spI1 C f) := by
  refine F.ok S (fun vs H Q E h => ?_) (fun cdv A outer s H vs Q E hr h => ?_)
  · obtain ⟨a, v, rfl, _⟩ := h
    rfl
  · obtain ⟨a, v, rfl, ea, k⟩ := h
    rw [hb]
    refine ⟨_, pss_one (ps_ost (pv 0 rfl (.inl hs)) (pv 1 rfl (.inl hl) hd hc)), ?_⟩
    exact ⟨_, rfl, _, rfl, a, C, rfl, T, hno, .inl ⟨ea, fun dx n ne => k dx n ne⟩⟩
theorem ok_init2 {st : Stmt} {q f g : Str} {C fa : Addr} {fd : FuncData} {p1 p2 p3 p4 q1 q2 q3 q4 : Pos} (F : Fun K "__init__" q st fa fd)
    (hb : defBody st = [.Assign [.Attribute (.Name "self" p1) f p2] (.Name f p3) p4, .Assign [.Attribute (.Name "self" q1) g q2] (.Name g q3) q4])
    (S : FnScope ["self", f, g] ["self", f, g] (defScope st)) (hs : (defScope st).names.lookup ("self" : Str) = some NameKind.local) (hl : (defScope st).names.lookup f = some NameKind.local) (hl2 : (defScope st).names.lookup g = some NameKind.local)
    (hd : (f == ("__debug__" : Str)) = false) (hc : (f == ("__classdict__" : Str)) = false) (hd2 : (g == ("__debug__" : Str)) = false) (hc2 : (g == ("__classdict__" : Str)) = false)
    (T : OexC K C) (hno : PySem.W.findIn K (.ref C) f = some none) (hno2 : PySem.W.findIn K (.ref C) g = some none) : FnOk P w K mg base CX0 1 fa fd ["self", f, g] (spI2 C f g) := by
  refine F.ok S (fun vs H Q E h => ?_) (fun cdv A outer s H vs Q E hr h => ?_)
  · obtain ⟨a, v, y, rfl, _⟩ := h
    rfl
  · obtain ⟨a, v, y, rfl, ea, k⟩ := h
    rw [hb]
    refine ⟨_, pss_cons (ps_ost (pv 0 rfl (.inl hs)) (pv 1 rfl (.inl hl) hd hc)) (pss_one (ps_ost (pv 0 rfl (.inl hs)) (pv 2 rfl (.inl hl2) hd2 hc2))), ?_⟩
    refine ⟨_, rfl, _, rfl, a, C, rfl, T, hno, .inl ⟨ea, fun dx n ne => ?_⟩⟩
    refine ⟨_, rfl, _, rfl, a, C, rfl, T, hno2, .inr ⟨dx, [(f, v)], upd_same, ?_, (by show 1 ≤ 900; decide), ?_⟩⟩
    · rw [upd_ne ne, upd_same]
    · have e : upd (upd (upd H dx (exd dx [(f, v)])) a (exo a C (some dx))) dx (exd dx [(g, y), (f, v)]) = upd (upd H dx (exd dx [(g, y), (f, v)])) a (exo a C (some dx)) := by
        funext b
        by_cases h2 : b = dx
        · rw [h2, upd_same, upd_ne ne, upd_same]
        · rw [upd_ne h2]
          by_cases h1 : b = a
          · rw [h1, upd_same, upd_same]
          · rw [upd_ne h1, upd_ne h1, upd_ne h2, upd_ne h2]
      rw [e]
      exact k dx n ne
/-- a class of one field; of two; of none -/
structure Mk1 (P : Program) (w : World) (K : PySem.W.Frag) (mg : Str → Option Value) (base : Heap) (x f : Str) (C fI : Addr) (fd : FuncData) : Prop where
  T : OexC K C
  X : ExcC K C
  no : PySem.W.findIn K (.ref C) f = some none
  gC : mg x = some (.ref C)
  iC : PySem.W.findIn K (.ref C) "__init__" = some (some (.ref fI))
  tI : PySem.W.typeIn K (.ref fI) = some (.type "function")
  FI : FnOk P w K mg base CX0 1 fI fd ["self", f] (spI1 C f)
  bI : Binds K fd ["self", f] []
structure Mk2 (P : Program) (w : World) (K : PySem.W.Frag) (mg : Str → Option Value) (base : Heap) (x f g : Str) (C fI : Addr) (fd : FuncData) : Prop where
  T : OexC K C
  X : ExcC K C
  no : PySem.W.findIn K (.ref C) f = some none
  no2 : PySem.W.findIn K (.ref C) g = some none
  gC : mg x = some (.ref C)
  iC : PySem.W.findIn K (.ref C) "__init__" = some (some (.ref fI))
  tI : PySem.W.typeIn K (.ref fI) = some (.type "function")
  FI : FnOk P w K mg base CX0 1 fI fd ["self", f, g] (spI2 C f g)
  bI : Binds K fd ["self", f, g] []
structure Mk0 (K : PySem.W.Frag) (mg : Str → Option Value) (x : Str) (C : Addr) : Prop where
  X : ExcC K C
  q : PySem.W.excIn K C [.type "ValueError", .type "Exception", .type "BaseException", .type "object"] "ValueError.__new__" = true
  gC : mg x = some (.ref C)
  kC : PySem.W.keepIn K (.ref C) = true
end
theorem mkx1 {H : Hp} {C : Addr} {f : Str} {v : V} {Q : VK} (k : ∀ a d, H a = none → H d = none → d ≠ a → Q (.ref a) (exH H a C d [(f, v)])) :
    [v].length ≤ 1000 ∧ ∀ a, H a = none → spI1 C f (.ref a :: [v]) (upd H a (exo a C none)) (fun u H2 => u = .non ∧ Q (.ref a) H2) (fun _ _ _ => False) :=
  ⟨by simp, fun a na => ⟨a, v, rfl, upd_same, fun d nd ne => ⟨rfl, by
    rw [exH_over]
    refine k a d na ?_ ne
    rw [upd_ne ne] at nd
    exact nd⟩⟩⟩
theorem mkx2 {H : Hp} {C : Addr} {f g : Str} {v y : V} {Q : VK} (k : ∀ a d, H a = none → H d = none → d ≠ a → Q (.ref a) (exH H a C d [(g, y), (f, v)])) :
    [v, y].length ≤ 1000 ∧ ∀ a, H a = none → spI2 C f g (.ref a :: [v, y]) (upd H a (exo a C none)) (fun u H2 => u = .non ∧ Q (.ref a) H2) (fun _ _ _ => False) :=
  ⟨by simp, fun a na => ⟨a, v, y, rfl, upd_same, fun d nd ne => ⟨rfl, by
    rw [exH_over]
    refine k a d na ?_ ne
    rw [upd_ne ne] at nd
    exact nd⟩⟩⟩
section
variable {X : Cx} {x f g : Str} {C fI : Addr} {fd : FuncData} {e : Expr} {es : List Expr} {ta : TA} {p pos : Pos}
theorem pe_m1 (M : Mk1 X.prog X.w X.K X.mg X.base x f C fI fd) (hr : Room 2 X.A) (hg : Gl X x) (ha : PA X (e :: es) ta)
    (hdb : (x == ("__debug__" : Str)) = false := by decide) (he : starEach (e :: es) X.env = (false, eval e X.env) :: starEach es X.env := by rfl) (hpl : (backTo pos (starEach es X.env)).any (·.1) = false := by rfl) :
    PE X (.Call (.Name x p) (e :: es) [] pos) (tMkx C (spI1 C f) ta) := pe_mkx M.T M.iC M.tI M.FI hr M.bI pass0 hg M.gC ha hdb he hpl
theorem pe_m2 (M : Mk2 X.prog X.w X.K X.mg X.base x f g C fI fd) (hr : Room 2 X.A) (hg : Gl X x) (ha : PA X (e :: es) ta)
    (hdb : (x == ("__debug__" : Str)) = false := by decide) (he : starEach (e :: es) X.env = (false, eval e X.env) :: starEach es X.env := by rfl) (hpl : (backTo pos (starEach es X.env)).any (·.1) = false := by rfl) :
    PE X (.Call (.Name x p) (e :: es) [] pos) (tMkx C (spI2 C f g) ta) := pe_mkx M.T M.iC M.tI M.FI hr M.bI pass0 hg M.gC ha hdb he hpl
theorem pe_m0 (M : Mk0 X.K X.mg x C) (hg : Gl X x) (hdb : (x == ("__debug__" : Str)) = false := by decide) :
    PE X (.Call (.Name x p) [] [] pos) (fun _ H Q => ∀ a, H a = none → Q (.ref a) (upd H a (exo a C none))) := pe_mkx0 PySem.F.excBase_ValueError M.q M.gC M.kC hg hdb
end
/-- X() for a raise, X without an own __init__ -/
theorem pmk_ex0 {X : Cx} {x : Str} {C : Addr} {p pos : Pos} {bmB : List Value} {B newId initId : String} (FB : ExcBaseFacts B newId initId bmB) (q : PySem.W.excIn X.K C bmB newId = true) (gC : X.mg x = some (.ref C)) (kC : PySem.W.keepIn X.K (.ref C) = true)
    (r : Raises X (.ref C)) (hg : Gl X x) (hdb : (x == ("__debug__" : Str)) = false := by decide) : PMk X (.Call (.Name x p) [] [] pos) (fun _ H Q => Q (.ref C) none H) := by
  intro pins s σ H Q I h
  apply wpAny_Call_Name_kw
  refine ld_glob I hg gC ?_ hdb
  refine PySem.W.callWith_K0 I.kIn kC ?_
  obtain ⟨bm, N, nm, qn, bs, hdct, sn, sub, ab, col, dd, k0, k1, k2, k3, k5, mN, hC, hN, hni, T⟩ := exc_obj I.kIn q
  refine wpAny_call_exc_subT FB T hC hN hni (fun h' a hm => ?_) (by show 0 ≤ sizeLine; exact Nat.zero_le _)
  exact mk_of I hm r h (I.hok.gone hm.new)
/-- the heap behind a raised C(v, ..): its dict alone -/
def rsH (H : Hp) (d : Addr) (fs : List (Str × V)) : Hp := upd H d (.xd fs)
theorem rs_eq {H : Hp} {a C d : Addr} {fs : List (Str × V)} (na : H a = none) (ne : d ≠ a) : upd (L2.del (exH H a C d fs) a) d (.xd fs) = rsH H d fs := by
  funext b
  unfold rsH
  by_cases h : b = d
  · rw [h, upd_same, upd_same]
  · rw [upd_ne h, upd_ne h]
    by_cases h2 : b = a
    · rw [h2, L2.del_same, na]
    · rw [L2.del_ne h2, exH_ne h2 h]
theorem rs1 {H : Hp} {C : Addr} {f : Str} {v : V} {Q : XK} (k : ∀ d, H d = none → Q (.ref C) (some d) (rsH H d [(f, v)])) : [v].length ≤ 1000 ∧ ∀ a, H a = none → spI1 C f (.ref a :: ([v] ++ [])) (upd H a (exo a C none))
    (fun u H2 => u = .non ∧ ∃ (d : Addr) (fs : List (Str × V)), H2 a = some (exo a C (some d)) ∧ H2 d = some (exd d fs) ∧ H d = none ∧ Q (.ref C) (some d) (upd (L2.del H2 a) d (.xd fs))) (fun _ _ _ => False) :=
  ⟨by simp, fun a na => ⟨a, v, rfl, upd_same, fun d nd ne => ⟨rfl, by
    rw [upd_ne ne] at nd
    rw [exH_over]
    refine ⟨d, _, exH_a, exH_d ne, nd, ?_⟩
    rw [rs_eq na ne]
    exact k d nd⟩⟩⟩
theorem rs2 {H : Hp} {C : Addr} {f g : Str} {v y : V} {Q : XK} (k : ∀ d, H d = none → Q (.ref C) (some d) (rsH H d [(g, y), (f, v)])) : [v, y].length ≤ 1000 ∧ ∀ a, H a = none → spI2 C f g (.ref a :: ([v, y] ++ [])) (upd H a (exo a C none))
    (fun u H2 => u = .non ∧ ∃ (d : Addr) (fs : List (Str × V)), H2 a = some (exo a C (some d)) ∧ H2 d = some (exd d fs) ∧ H d = none ∧ Q (.ref C) (some d) (upd (L2.del H2 a) d (.xd fs))) (fun _ _ _ => False) :=
  ⟨by simp, fun a na => ⟨a, v, y, rfl, upd_same, fun d nd ne => ⟨rfl, by
    rw [upd_ne ne] at nd
    rw [exH_over]
    refine ⟨d, _, exH_a, exH_d ne, nd, ?_⟩
    rw [rs_eq na ne]
    exact k d nd⟩⟩⟩
end Wp
set_option Elab.async false
set_option linter.all false
set_option maxRecDepth 100000
set_option maxHeartbeats 4000000
namespace Wp
open PySem L2
/-! ## a field is made -/
def meth (i j : Nat) : Stmt := match top i with
  | .ClassDef _ _ _ body _ _ _ _ _ _ _ => body.getD j (.Pass ⟨0, 0, 0, 0⟩)
  | s => s
abbrev sFI : Stmt := meth 24 0
abbrev sFE : Stmt := meth 24 1
def fieldRight (n m t d w : PyData) : Bool := isFieldName n && fitsMode m t d && (match n with
  | .str x => wasRight x w
  | _ => false)
def txtsOf (w : PyData) : List Str := txts ((seqOf w).getD [])
def fsF (n m t d : V) (tw : Addr) : List (Str × V) := [("name", n), ("mode", m), ("target", t), ("default", d), ("was", .ref tw)]
/-- all but x is as it was -/
def But (x : Addr) (H H' : Hp) : Prop := ∀ b o, b ≠ x → H b = some o → H' b = some o
def spFI (K : PySem.W.Frag) (CF CB : Addr) : Sp := fun vs H Q E => ∃ (x dx : Addr) (un um ut ud uw : V) (n m t d w : PyData), vs = [.ref x, un, um, ut, ud, uw] ∧ H x = some (.ins CF dx []) ∧
  Dq K H un n ∧ Dq K H um m ∧ Dq K H ut t ∧ Dq K H ud d ∧ Dq K H uw w ∧ Shrt n ∧ Shrt t ∧ ShrtS w ∧
  (fieldRight n m t d w = true → ∀ (H' : Hp) (tw : Addr), But x H H' → H' x = some (.ins CF dx (fsF un um ut ud tw)) → SqT K H' tw ((txtsOf w).map V.str) → Q .non H') ∧
  (fieldRight n m t d w = false → ∀ (H' : Hp) (e : Addr), Same H H' → H e = none → H' e = some (.xd [("name", un)]) → E (.ref CB) (some e) H')
theorem none_of {H H' : Hp} {d : Addr} (s : Same H H') (h : H' d = none) : H d = none := by
  cases e : H d with
  | none => rfl
  | some o =>
    rw [s _ _ e] at h
    cases h
theorem sqL_off {K : PySem.W.Frag} {H : Hp} {a x C dx : Addr} {xs : List V} {fs : List (Str × V)} {o : HO} (h : SqL K H a xs) (hx : H x = some (.ins C dx fs)) : SqL K (upd H x o) a xs := by
  rcases h with (h | ⟨ob, h⟩) | h
  · exact .inl (.inl (by rw [upd_ne (ne_of h hx (by intro z; cases z))]; exact h))
  · exact .inl (.inr ⟨ob, by rw [upd_ne (ne_of h hx (by intro z; cases z))]; exact h⟩)
  · exact .inr h
theorem sqT_off {K : PySem.W.Frag} {H : Hp} {a x C dx : Addr} {xs : List V} {fs : List (Str × V)} {o : HO} (h : SqT K H a xs) (hx : H x = some (.ins C dx fs)) : SqT K (upd H x o) a xs := by
  rcases h with (h | ⟨ob, h⟩) | h
  · exact .inl (.inl (by rw [upd_ne (ne_of h hx (by intro z; cases z))]; exact h))
  · exact .inl (.inr ⟨ob, by rw [upd_ne (ne_of h hx (by intro z; cases z))]; exact h⟩)
  · exact .inr h
/-- the class whose things are plain, with these attributes -/
structure PlainC (K : PySem.W.Frag) (C : Addr) (fs : List Str) : Prop where
  cl : Cls K C
  no : ∀ f ∈ fs, NoAttr K C f
section
variable {P : Program} {w : World} {K : PySem.W.Frag} {mg : Str → Option Value} {base : Heap}
theorem scFI : FnScope ["self", "name", "mode", "target", "default", "was"] ["self", "name", "mode", "target", "default", "was"] (defScope sFI) := ⟨rfl, rfl, rfl, by decide +kernel, rfl, by decide +kernel, by decide +kernel⟩
theorem ok_FI {params : Arguments} {f f1 f2 f3 CF CB fB : Addr} {fd fd1 fd2 fd3 fdB : FuncData} {kws : List (Str × V)} (F : FunD K "__init__" "Field.__init__" params (defBody sFI) (defScope sFI) [] kws f fd) (B : Bn mg)
    (N : Known P w K mg base CX0 2 "is_field_name" ["value"] (spIsField K) f1 fd1) (T : Known P w K mg base CX0 3 "_fits_mode" ["mode", "target", "default"] (spFits K) f2 fd2) (W : Known P w K mg base CX0 3 "_is_was" ["name", "was"] (spWas K) f3 fd3)
    (M : Mk1 P w K mg base "BadField" "name" CB fB fdB) (C : PlainC K CF ["name", "mode", "target", "default", "was"]) : FnOk P w K mg base (L2.CX P w) 4 f fd ["self", "name", "mode", "target", "default", "was"] (spFI K CF CB) := by
  refine F.ok scFI (fun vs H Q E h => ?_) (fun cdv A outer s H vs Q E hr h => ?_)
  · obtain ⟨x, dx, un, um, ut, ud, uw, n, m, t, d, w, rfl, _⟩ := h
    rfl
  · obtain ⟨x, dx, un, um, ut, ud, uw, n, m, t, d, wd, rfl, hx, qn, qm, qt, qd, qw, sn, st, sw, k1, k2⟩ := h
    refine ⟨_, pss_cons (ps_if (PW.pt (pw_or (pt_not (pt_val (pe_call N.ok (hr.mono (by decide)) rfl N.mg N.kp N.bi .nil pass0 (pa_cons (pv 1) pa_nil))))
          (pw_or (pt_not (pt_val (pe_call T.ok hr rfl T.mg T.kp T.bi .nil pass0 (pa_cons (pv 2) (pa_cons (pv 3) (pa_cons (pv 4) pa_nil))))))
          (pw_or1 (pt_not (pt_val (pe_call W.ok hr rfl W.mg W.kp W.bi .nil pass0 (pa_cons (pv 1) (pa_cons (pv 5) pa_nil)))))))))
        (pss_one (ps_raise rfl (takes_of rfl rfl rfl rfl) (pmk_oex (dvs := []) M.T M.iC M.tI M.FI (hr.mono (by decide)) M.bI .nil pass0 (by rfl) M.gC (pa_cons (pv 1) pa_nil)))) pss_nil)
      (pss_cons (ps_fld (pv 0) (pv 1) rfl)
      (pss_cons (ps_fld (pv 0) (pv 2) rfl)
      (pss_cons (ps_fld (pv 0) (pv 3) rfl)
      (pss_cons (ps_fld (pv 0) (pv 4) rfl)
      (pss_one (ps_fld (pv 0) (pe_callTy call_tuple_of (by rfl) B.tuple boot_ttuple (pa_cons (pv 5) pa_nil)) rfl)))))), ?_⟩
    have r0 : ∀ H1, Same H H1 → fieldRight n m t d wd = false → [un].length ≤ 1000 ∧ ∀ a, H1 a = none → spI1 CB "name" (.ref a :: ([un] ++ [])) (upd H1 a (exo a CB none))
        (fun u H2 => u = .non ∧ ∃ (d : Addr) (fs : List (Str × V)), H2 a = some (exo a CB (some d)) ∧ H2 d = some (exd d fs) ∧ H1 d = none ∧ E (.ref CB) (some d) (upd (L2.del H2 a) d (.xd fs))) (fun _ _ _ => False) :=
      fun H1 s1 bad => rs1 (Q := E) fun d0 nd => k2 bad _ d0 (s1.trans (same_new nd)) (none_of s1 nd) upd_same
    refine ⟨_, rfl, un, n, rfl, qn, sn, fun H1 s1 => ⟨_, rfl, ?_⟩⟩
    cases e1 : isFieldName n with
    | false => exact ⟨un, rfl, r0 H1 s1 (by simp only [fieldRight, e1]; rfl)⟩
    | true =>
      refine ⟨_, rfl, _, rfl, _, rfl, um, ut, ud, m, t, d, rfl, qm.same s1, qt.same s1, qd.same s1, st, fun H2 s2 => ⟨_, rfl, ?_⟩⟩
      have s12 := s1.trans s2
      cases e2 : fitsMode m t d with
      | false => exact ⟨un, rfl, r0 H2 s12 (by simp only [fieldRight, e1, e2]; rfl)⟩
      | true =>
        obtain ⟨nx, rfl⟩ : ∃ nx, n = .str nx := by
          cases n <;> first | exact ⟨_, rfl⟩ | exact absurd e1 (by simp [isFieldName, isWordN])
        obtain rfl := qn.str_of
        refine ⟨_, rfl, _, rfl, nx, uw, wd, rfl, qw.same s12, sw, fun H3 s3 => ⟨_, rfl, ?_⟩⟩
        have s123 := s12.trans s3
        cases e3 : wasRight nx wd with
        | false => exact ⟨_, rfl, r0 H3 s123 (by simp only [fieldRight, e1, e2, e3]; rfl)⟩
        | true =>
          have right : fieldRight (.str nx) m t d wd = true := by
            simp only [fieldRight, e1, e2, e3]
            rfl
          have hx3 := s123 _ _ hx
          obtain ⟨ds, e4⟩ : ∃ ds, seqOf wd = some ds := by
            cases e : seqOf wd with
            | none =>
              simp only [wasRight, e] at e3
              cases e3
            | some ds => exact ⟨ds, rfl⟩
          have e5 : ds.all isFieldName = true := by
            simp only [wasRight, e4, Bool.and_eq_true] at e3
            exact e3.1.1.2
          obtain ⟨a, vs, rfl, sq, da, shp⟩ := (qw.same s123).seq e4
          obtain ⟨e6, e7⟩ := dpAll_txts da e5
          subst e6
          have e8 : txtsOf wd = txts ds := by simp only [txtsOf, e4, Option.getD_some]
          refine ⟨_, rfl, _, rfl, x, CF, dx, _, rfl, hx3, C.cl, C.no _ (by simp), (by decide), ?_⟩
          refine ⟨_, rfl, _, rfl, x, CF, dx, _, rfl, upd_same, C.cl, C.no _ (by simp), (by show 1 < 1000; decide), ?_⟩
          refine ⟨_, rfl, _, rfl, x, CF, dx, _, rfl, upd_same, C.cl, C.no _ (by simp), (by show 2 < 1000; decide), ?_⟩
          refine ⟨_, rfl, _, rfl, x, CF, dx, _, rfl, upd_same, C.cl, C.no _ (by simp), (by show 3 < 1000; decide), ?_⟩
          rw [upd_upd, upd_upd, upd_upd]
          refine ⟨_, rfl, a, (txts ds).map V.str, rfl, ?_⟩
          have fin : ∀ (tw : Addr) (H4 : Hp), H4 x = some (.ins CF dx [("name", .str nx), ("mode", um), ("target", ut), ("default", ud)]) → But x H H4 → SqT K H4 tw ((txts ds).map V.str) →
              Q .non (upd H4 x (.ins CF dx (fsF (.str nx) um ut ud tw))) := by
            intro tw H4 e9 b4 sT
            refine k1 right _ tw (fun b o ne e => ?_) upd_same ?_
            · rw [upd_ne ne]
              exact b4 b o ne e
            · rw [e8]
              exact sqT_off sT e9
          rcases sq with ⟨sq, _⟩ | ⟨sq, _⟩
          · refine .inl ⟨sqL_off sq hx3, fun l hl => ?_⟩
            have nl : l ≠ x := fun z => by rw [z, upd_same] at hl; cases hl
            have hl3 : H3 l = none := by rw [upd_ne nl] at hl; exact hl
            refine ⟨_, rfl, x, CF, dx, _, rfl, (upd_ne (Ne.symm nl)).trans upd_same, C.cl, C.no _ (by simp), (by show 4 < 1000; decide), ?_⟩
            refine fin l _ ((upd_ne (Ne.symm nl)).trans upd_same) (fun b o ne e => ?_) (SqT.of upd_same)
            have e1 := s123 b o e
            rw [upd_ne (ne_of_none e1 hl3), upd_ne ne]
            exact e1
          · refine .inr ⟨sqT_off sq hx3, ?_⟩
            refine ⟨_, rfl, x, CF, dx, _, rfl, upd_same, C.cl, C.no _ (by simp), (by show 4 < 1000; decide), ?_⟩
            refine fin a _ upd_same (fun b o ne e => ?_) (sqT_off sq hx3)
            rw [upd_ne ne]
            exact s123 b o e
end
end Wp
set_option Elab.async false
set_option linter.all false
set_option maxRecDepth 100000
set_option maxHeartbeats 4000000
namespace Wp
open PySem L2
/-! ## two fields are compared -/
/-- what isinstance and == ask of an own class -/
structure OwnC (K : PySem.W.Frag) (C : Addr) : Prop where
  cl : Cls K C
  ha : PySem.W.findIn K (.ref C) "__class__" = some (some (.builtin "object.__class__"))
  hn : PySem.W.specialIn K (.builtin "object.__class__") "__get__" = some (some (.builtin "getset_descriptor.__get__"))
  htk : PySem.W.takesIn K (.builtin "object.__class__") = some true
  hm : PySem.W.mroIn K C (.type "object") = some true
  self : PySem.W.kitOne K (.ref C) (.ref C) = some true
  other : ∀ d : PyData, PySem.W.kitOne K (.type (tyN d)) (.ref C) = some false
theorem OwnC.ty {K : PySem.W.Frag} {C : Addr} (O : OwnC K C) {H : Hp} {a dx : Addr} {fs : List (Str × V)} (h : H a = some (.ins C dx fs)) : TyX K H (.ref a) (.ref C) := .base (.ins h O.cl O.ha O.hn O.htk O.hm)
/-- a field's parts -/
structure FV where
  n : Str
  m : Str
  t : Option Str
  d : Int
  w : List Str
deriving DecidableEq
theorem fv_dec {v u : FV} (e1 : v.n = u.n) (e2 : v.m = u.m) (e3 : v.t = u.t) (e4 : v.d = u.d) : decide (v.w = u.w) = decide (v = u) := by
  cases v
  cases u
  simp only at e1 e2 e3 e4
  subst e1 e2 e3 e4
  simp
def tv : Option Str → V
  | none => .non
  | some x => .str x
theorem tv_inj {a b : Option Str} (h : tv a = tv b) : a = b := by
  cases a <;> cases b <;> simp [tv] at h <;> simp [h]
theorem scal_tv (a b : Option Str) : scal (tv a) (tv b) = true := by
  cases a <;> cases b <;> rfl
structure FieldAt (K : PySem.W.Frag) (CF : Addr) (H : Hp) (a : Addr) (v : FV) : Prop where
  ex : ∃ dx tw, H a = some (.ins CF dx (fsF (.str v.n) (.str v.m) (tv v.t) (.int v.d) tw)) ∧ SqT K H tw (v.w.map V.str)
  sh : SeqAt.shaped (.tuple (v.w.map PyData.str)) = true
theorem eqv_txts : ∀ w u : List Str, PyData.eqvAll (w.map PyData.str) (u.map PyData.str) = decide (w = u)
  | [], [] => rfl
  | [], _ :: _ => rfl
  | _ :: _, [] => rfl
  | x :: w, y :: u => by
    show (PyData.eqv (.str x) (.str y) && PyData.eqvAll _ _) = _
    rw [eqv_txts w u, eqv_txt]
    by_cases e : x = y
    · by_cases z : w = u <;> simp [isTxt, e, z]
    · simp [isTxt, e]
theorem dpAll_strs {K : PySem.W.Frag} {H : Hp} : ∀ w : List Str, DpAll K H (w.map V.str) (w.map PyData.str)
  | [] => .nil
  | x :: w => .cons (.str x) (dpAll_strs w)
theorem ne_mode_name : (("mode" : Str) == "name") = false := by decide +kernel
theorem ne_target_name : (("target" : Str) == "name") = false := by decide +kernel
theorem ne_target_mode : (("target" : Str) == "mode") = false := by decide +kernel
theorem ne_default_name : (("default" : Str) == "name") = false := by decide +kernel
theorem ne_default_mode : (("default" : Str) == "mode") = false := by decide +kernel
theorem ne_default_target : (("default" : Str) == "target") = false := by decide +kernel
theorem ne_was_name : (("was" : Str) == "name") = false := by decide +kernel
theorem ne_was_mode : (("was" : Str) == "mode") = false := by decide +kernel
theorem ne_was_target : (("was" : Str) == "target") = false := by decide +kernel
theorem ne_was_default : (("was" : Str) == "default") = false := by decide +kernel
theorem lk_fs (x y z u : V) (tw : Addr) : List.lookup ("was" : Str) (fsF x y z u tw) = some (V.ref tw) ∧ List.lookup ("default" : Str) (fsF x y z u tw) = some u ∧ List.lookup ("target" : Str) (fsF x y z u tw) = some z ∧ List.lookup ("mode" : Str) (fsF x y z u tw) = some y ∧ List.lookup ("name" : Str) (fsF x y z u tw) = some x := by
  simp [fsF, List.lookup, ne_mode_name, ne_target_name, ne_target_mode, ne_default_name, ne_default_mode, ne_default_target, ne_was_name, ne_was_mode, ne_was_target, ne_was_default]
/-- a field beside a field, or beside a tuple -/
def spFE (K : PySem.W.Frag) (CF : Addr) : Sp := fun vs H Q _ => ∃ (a : Addr) (y : V) (v : FV), vs = [.ref a, y] ∧ FieldAt K CF H a v ∧
  ((∃ (b : Addr) (u : FV), y = .ref b ∧ FieldAt K CF H b u ∧ Q (.bl (decide (v = u))) H) ∨ (∃ (q : Addr) (ys : List V), y = .ref q ∧ SqT K H q ys ∧ Q (.bl false) H))
section
variable {P : Program} {w : World} {K : PySem.W.Frag} {mg : Str → Option Value} {base : Heap}
theorem scFE : FnScope ["self", "other"] ["self", "other"] (defScope sFE) := ⟨rfl, rfl, rfl, by decide +kernel, rfl, by decide +kernel, by decide +kernel⟩
theorem ok_FE {f CF : Addr} {fd : FuncData} (F : Fun K "__eq__" "Field.__eq__" sFE f fd) (B : Bn mg) (O : OwnC K CF) (C : PlainC K CF ["name", "mode", "target", "default", "was"]) (g : mg "Field" = some (.ref CF)) :
    FnOk P w K mg base CX0 1 f fd ["self", "other"] (spFE K CF) := by
  refine F.ok scFE (fun vs H Q E h => ?_) (fun cdv A outer s H vs Q E hr h => ?_)
  · obtain ⟨a, y, v, rfl, _⟩ := h
    rfl
  · obtain ⟨a, y, v, rfl, fa, h⟩ := h
    refine ⟨_, pss_one (ps_ret (pe_and (pe_callB call_isi (by rfl) B.isi boot_isi (pa_cons (pv 1) (pa_cons (pe_glob (v := .ref CF) (by rfl) g rfl) pa_nil)))
      (pe_and (pe_cmpR op_eq (pe_fld (pv 0) rfl) (pe_fld (pv 1) rfl) (nomark _))
      (pe_and (pe_cmpR op_eq (pe_fld (pv 0) rfl) (pe_fld (pv 1) rfl) (nomark _))
      (pe_and (pe_cmpR op_eq (pe_fld (pv 0) rfl) (pe_fld (pv 1) rfl) (nomark _))
      (pe_and (pe_cmpR op_eq (pe_fld (pv 0) rfl) (pe_fld (pv 1) rfl) (nomark _))
      (pe_one (pe_cmpR (op_eqD hr.units) (pe_fld (pv 0) rfl) (pe_fld (pv 1) rfl) (nomark _)))))))) ), ?_⟩
    rcases h with ⟨b, u, rfl, fb, k⟩ | ⟨q, ys, rfl, sq, k⟩
    · obtain ⟨dx, tw, ha, sa⟩ := fa.ex
      obtain ⟨dy, uw, hb, sb⟩ := fb.ex
      refine ⟨_, rfl, .ref b, .ref CF, .ref CF, .ref CF, true, rfl, .own CF, O.ty hb, O.self, _, rfl, ?_⟩
      have no : v ≠ u → Q (.bl false) H := fun ne => by
        rw [decide_eq_false ne] at k
        exact k
      have lk := lk_fs
      -- name
      refine ⟨_, rfl, a, CF, dx, _, _, rfl, ha, C.cl, C.no _ (by simp), (lk _ _ _ _ _).2.2.2.2, _, rfl, b, CF, dy, _, _, rfl, hb, C.cl, C.no _ (by simp), (lk _ _ _ _ _).2.2.2.2, rfl, _, rfl, ?_⟩
      by_cases e1 : ¬ v.n = u.n
      · rw [decide_eq_false (p := V.str v.n = V.str u.n) fun z => e1 (by injection z)]
        exact no fun z => e1 (z ▸ rfl)
      have e1 := Decidable.of_not_not e1
      rw [decide_eq_true (p := V.str v.n = V.str u.n) (by rw [e1])]
      -- mode
      refine ⟨_, rfl, a, CF, dx, _, _, rfl, ha, C.cl, C.no _ (by simp), (lk _ _ _ _ _).2.2.2.1, _, rfl, b, CF, dy, _, _, rfl, hb, C.cl, C.no _ (by simp), (lk _ _ _ _ _).2.2.2.1, rfl, _, rfl, ?_⟩
      by_cases e2 : ¬ v.m = u.m
      · rw [decide_eq_false (p := V.str v.m = V.str u.m) fun z => e2 (by injection z)]
        exact no fun z => e2 (z ▸ rfl)
      have e2 := Decidable.of_not_not e2
      rw [decide_eq_true (p := V.str v.m = V.str u.m) (by rw [e2])]
      -- target
      refine ⟨_, rfl, a, CF, dx, _, _, rfl, ha, C.cl, C.no _ (by simp), (lk _ _ _ _ _).2.2.1, _, rfl, b, CF, dy, _, _, rfl, hb, C.cl, C.no _ (by simp), (lk _ _ _ _ _).2.2.1, scal_tv _ _, _, rfl, ?_⟩
      by_cases e3 : ¬ v.t = u.t
      · rw [decide_eq_false (p := tv v.t = tv u.t) fun z => e3 (tv_inj z)]
        exact no fun z => e3 (z ▸ rfl)
      have e3 := Decidable.of_not_not e3
      rw [decide_eq_true (p := tv v.t = tv u.t) (by rw [e3])]
      -- default
      refine ⟨_, rfl, a, CF, dx, _, _, rfl, ha, C.cl, C.no _ (by simp), (lk _ _ _ _ _).2.1, _, rfl, b, CF, dy, _, _, rfl, hb, C.cl, C.no _ (by simp), (lk _ _ _ _ _).2.1, rfl, _, rfl, ?_⟩
      by_cases e4 : ¬ v.d = u.d
      · rw [decide_eq_false (p := V.int v.d = V.int u.d) fun z => e4 (by injection z)]
        exact no fun z => e4 (z ▸ rfl)
      have e4 := Decidable.of_not_not e4
      rw [decide_eq_true (p := V.int v.d = V.int u.d) (by rw [e4])]
      -- was
      refine ⟨_, rfl, a, CF, dx, _, _, rfl, ha, C.cl, C.no _ (by simp), (lk _ _ _ _ _).1, _, rfl, b, CF, dy, _, _, rfl, hb, C.cl, C.no _ (by simp), (lk _ _ _ _ _).1, .tuple (v.w.map .str), .tuple (u.w.map .str),
        .tup sa (dpAll_strs _), .tup sb (dpAll_strs _), fa.sh, fb.sh, ?_⟩
      have e5 : PyData.eqv (.tuple (v.w.map .str)) (.tuple (u.w.map .str)) = decide (v = u) := by
        show PyData.eqvAll _ _ = _
        rw [eqv_txts]
        exact fv_dec e1 e2 e3 e4
      rw [e5]
      exact k
    · exact ⟨_, rfl, .ref q, .ref CF, .type "tuple", .ref CF, false, rfl, .own CF, SqT.ty sq, O.other (.tuple []), _, rfl, k⟩
end
end Wp
set_option Elab.async false
set_option linter.all false
set_option maxRecDepth 100000
set_option maxHeartbeats 4000000
namespace Wp
open PySem L2
/-! ## fields of a kind -/
inductive Item
  | f (v : FV)
  | d (x : PyData)
def ItAt (K : PySem.W.Frag) (CF : Addr) (H : Hp) (u : V) : Item → Prop
  | .f v => ∃ a, u = .ref a ∧ FieldAt K CF H a v
  | .d x => Dq K H u x
def isF : Item → Bool
  | .f _ => true
  | .d _ => false
def nameOf : Item → Str
  | .f v => v.n
  | .d _ => Str.empty
def areFields (its : List Item) : Bool := decide (its.length ≤ 10) && its.all isF && decide (its.map nameOf).Nodup
theorem FieldAt.same {K : PySem.W.Frag} {CF : Addr} {H H' : Hp} {a : Addr} {v : FV} (h : FieldAt K CF H a v) (s : Same H H') : FieldAt K CF H' a v := by
  obtain ⟨⟨dx, tw, e, sq⟩, sh⟩ := h
  exact ⟨⟨dx, tw, s _ _ e, sqT_same s sq⟩, sh⟩
theorem ItAt.same {K : PySem.W.Frag} {CF : Addr} {H H' : Hp} {u : V} {i : Item} (h : ItAt K CF H u i) (s : Same H H') : ItAt K CF H' u i := by
  cases i with
  | f v =>
    obtain ⟨a, e, q⟩ := h
    exact ⟨a, e, q.same s⟩
  | d x => exact Dq.same s h
theorem paired_get {α β : Type} {F : α → β → Prop} : ∀ {xs : List α} {ys : List β}, Paired F xs ys → ∀ {j : Nat} {x : α}, xs[j]? = some x → ∃ y, ys[j]? = some y ∧ F x y
  | _, _, .nil, j, x, e => by simp at e
  | _, _, .cons (a := a) (b := b) r t, j, x, e => by
    cases j with
    | zero =>
      simp at e
      subst e
      exact ⟨b, rfl, r⟩
    | succ j => exact paired_get t (by simpa using e)
def spAF (K : PySem.W.Frag) (CF : Addr) : Sp := fun vs H Q _ => ∃ v : V, vs = [v] ∧
  ((∃ (a : Addr) (us : List V) (its : List Item), v = .ref a ∧ (SqL K H a us ∨ SqT K H a us) ∧ Paired (ItAt K CF H) us its ∧ its.length ≤ 1000 ∧ ∀ H', Same H H' → Q (.bl (areFields its)) H') ∨
   (∃ d : PyData, Dq K H v d ∧ (isLst d || isTup d) = false ∧ ∀ H', Same H H' → Q (.bl false) H'))
section
variable {P : Program} {w : World} {K : PySem.W.Frag} {mg : Str → Option Value} {base : Heap}
abbrev sAF : Stmt := top 25
theorem scAF : FnScope ["fields", "field"] ["fields"] (defScope sAF) := ⟨rfl, rfl, rfl, by decide +kernel, rfl, by decide +kernel, by decide +kernel⟩
theorem ok_AF {f f2 CF CH : Addr} {mc u10 : Value} {fd fd2 : FuncData} (F : Fun K "_are_fields" "_are_fields" sAF f fd) (B : Bn mg) (O : OwnC K CF) (C : PlainC K CF ["name", "mode", "target", "default", "was"]) (g : mg "Field" = some (.ref CF))
    (gH : mg "House" = some (.ref CH)) (cr : ClX.CRead K CH mc) (cv : ClX.CVal K CH mc "FIELDS" (.int 10) u10) (D : Known P w K mg base CX0 1 "are_different" ["names"] (spDiff K) f2 fd2) : FnOk P w K mg base CX0 2 f fd ["fields"] (spAF K CF) := by
  refine F.ok scAF (fun vs H Q E h => ?_) (fun cdv A outer s H vs Q E hr h => ?_)
  · obtain ⟨v, rfl, _⟩ := h
    rfl
  · obtain ⟨v, rfl, h⟩ := h
    refine ⟨_, pss_cons (ps_if (PW.pt (pw_or (pt_not (pt_val (pe_callB call_isiT (by rfl) B.isi boot_isi (pa_cons (pv 0) (pa_cons (pe_tup (pa_cons (pe_bltn (v := .ty "list") (by rfl) B.list PyProof.Rows.boot_list rfl) (pa_cons (pe_bltn (v := .ty "tuple") (by rfl) B.tuple boot_ttuple rfl) pa_nil))) pa_nil)))))
          (pw_or1 (pt_cmpR op_gt (pe_callB call_len_seq (by rfl) B.len PySem.boot_len (pa_cons (pv 0) pa_nil)) (ClX.pe_cval (pe_glob (v := .ref CH) (by rfl) gH rfl)) (nomark _)))))
        (pss_one (ps_ret pe_bl)) pss_nil)
      (pss_cons (ps_if (pt_not (pt_val (pe_callB (cr_all rfl) (by rfl) B.all boot_all (pa_cons (pe_lc (own := [("field", 1)]) (g := gName 1) (tt := tYes) (te := tCB (rIsi K) (tCons (tVar 1) (tCons (tC (.ref CF)) tNil))) rfl scAF.nd (pi_seqV (i := 0) (pv 0))
          (blkOk_by (N := ["fields", "field"]) (sc := defScope sAF) (by decide +kernel)) (fun _ _ _ _ _ => pg_name (i := 1) scAF.nd rfl (Or.inl rfl)) (fun _ _ _ _ _ => pts_nil)
          (fun _ _ _ _ _ => pe_callB call_isi (by rfl) B.isi boot_isi (pa_cons (pv 1) (pa_cons (pe_glob (v := .ref CF) (by rfl) g rfl) pa_nil)))) pa_nil))))
        (pss_one (ps_ret pe_bl)) pss_nil)
      (pss_one (ps_ret (pe_call D.ok hr rfl D.mg D.kp D.bi .nil pass0 (pa_cons (pe_lc (own := [("field", 1)]) (g := gName 1) (tt := tYes) (te := tFld K (tVar 1) "name") rfl scAF.nd (pi_seqV (i := 0) (pv 0))
          (blkOk_by (N := ["fields", "field"]) (sc := defScope sAF) (by decide +kernel)) (fun _ _ _ _ _ => pg_name (i := 1) scAF.nd rfl (Or.inl rfl)) (fun _ _ _ _ _ => pts_nil)
          (fun _ _ _ _ _ => pe_fld (pv 1) rfl)) pa_nil))))), ?_⟩
    refine ⟨_, rfl, by show 2 ≤ sizeLine; decide, fun T hT => ?_⟩
    have s1 : Same H (upd H T (.tup [.ty "list", .ty "tuple"])) := same_new hT
    rcases h with ⟨a, us, its, rfl, sq, pr, few, k⟩ | ⟨d, q, no, k⟩
    · have sq1 : SqL K (upd H T (.tup [.ty "list", .ty "tuple"])) a us ∨ SqT K (upd H T (.tup [.ty "list", .ty "tuple"])) a us := sq.imp (sqL_same s1) (sqT_same s1)
      have pr1 : Paired (ItAt K CF (upd H T (.tup [.ty "list", .ty "tuple"]))) us its := L2.Paired.mapP pr fun _ _ z => z.same s1
      obtain ⟨dd, ty, yes⟩ : ∃ dd : PyData, TyX K (upd H T (.tup [.ty "list", .ty "tuple"])) (.ref a) (.type (tyN dd)) ∧ (isLst dd || isTup dd) = true :=
        sq1.elim (fun z => ⟨.list [], SqL.ty z, rfl⟩) fun z => ⟨.tuple [], SqT.ty z, rfl⟩
      have ln : us.length = its.length := pr.length
      refine ⟨.ref a, T, [.ty "list", .ty "tuple"], _, [.type "list", .type "tuple"], _, rfl, upd_same, .cons (.ty _) (.cons (.ty _) .nil), ty, kit_seq dd, _, rfl, ?_⟩
      rw [yes]
      refine ⟨_, rfl, a, us, rfl, sq1, CH, mc, .int 10, u10, rfl, cr, cv, _, _, rfl, rfl, _, rfl, ?_⟩
      have no : ∀ H', Same H H' → areFields its = false → Q (.bl false) H' := fun H' s e => by
        have r := k H' s
        rw [e] at r
        exact r
      cases e2 : decide ((10 : Int) < us.length) with
      | true =>
        refine no _ s1 ?_
        have e3 : ¬ its.length ≤ 10 := by
          have := of_decide_eq_true e2
          omega
        simp only [areFields, decide_eq_false e3, Bool.false_and]
      | false =>
        have e3 : its.length ≤ 10 := by
          have := of_decide_eq_false e2
          omega
        refine ⟨a, us, rfl, sq1, fun J G w hG D0 hD0 => ?_⟩
        refine lc_grow (f := fun j => V.bl (isF (its.getD j (.d .none)))) w (by omega) (fun H' z => hG H' (.of z)) hD0 ?_ ?_
        · intro j x H1 R hx sm k1
          obtain ⟨i0, g1, g2⟩ := paired_get pr1 hx
          have r := k1 H1 (Same.refl _)
          rw [List.getD_eq_getElem?_getD, g1] at r
          cases i0 with
          | f v =>
            obtain ⟨b, rfl, fb⟩ := g2
            obtain ⟨dx, tw, e, _⟩ := (fb.same sm).ex
            exact ⟨_, rfl, .ref b, .ref CF, .ref CF, .ref CF, true, rfl, .own CF, O.ty e, O.self, r⟩
          | d dt => exact ⟨_, rfl, x, .ref CF, _, .ref CF, false, rfl, .own CF, (Dq.same sm g2).ty, O.other dt, r⟩
        · intro H' s2 hL
          have s3 : Same H H' := s1.trans s2
          rw [show (List.range us.length).map (fun j => V.bl (isF (its.getD j (.d .none)))) = (its.map isF).map V.bl by rw [ln, List.map_map, ← range_map (V.bl ∘ isF) (.d .none) its]; rfl] at hL
          refine ⟨D0, its.map isF, rfl, SqL.of hL, _, rfl, ?_⟩
          have e4 : (its.map isF).all id = its.all isF := by simp [List.all_map, Function.comp_def]
          rw [e4]
          cases e5 : its.all isF with
          | false =>
            refine no _ s3 ?_
            simp only [areFields, e5, Bool.and_false, Bool.false_and]
          | true =>
            have sq2 : SqL K H' a us ∨ SqT K H' a us := sq1.imp (sqL_same s2) (sqT_same s2)
            refine ⟨a, us, rfl, sq2, fun J2 G2 w2 hG2 D1 hD1 => ?_⟩
            refine lc_grow (f := fun j => V.str (nameOf (its.getD j (.d .none)))) w2 (by omega) (fun H' z => hG2 H' (.of z)) hD1 ?_ ?_
            · intro j x H1 R hx sm k1
              obtain ⟨i0, g1, g2⟩ := paired_get pr1 hx
              have r := k1 H1 (Same.refl _)
              rw [List.getD_eq_getElem?_getD, g1] at r
              cases i0 with
              | f v =>
                obtain ⟨b, rfl, fb⟩ := g2
                obtain ⟨dx, tw, e, _⟩ := (fb.same (s2.trans sm)).ex
                exact ⟨_, rfl, b, CF, dx, _, _, rfl, e, C.cl, C.no _ (by simp), (lk_fs _ _ _ _ _).2.2.2.2, r⟩
              | d dt =>
                have := List.all_eq_true.mp e5 _ (List.mem_of_getElem? g1)
                cases this
            · intro H2 s4 hL2
              rw [show (List.range us.length).map (fun j => V.str (nameOf (its.getD j (.d .none)))) = (its.map nameOf).map V.str by rw [ln, List.map_map, ← range_map (V.str ∘ nameOf) (.d .none) its]; rfl] at hL2
              refine ⟨D1, its.map nameOf, rfl, ⟨.inl (SqL.of hL2), by rw [List.length_map]; omega⟩, ?_⟩
              have r := k H2 (s3.trans s4)
              simp only [areFields, e5, decide_eq_true e3, Bool.true_and] at r
              exact r
    · refine ⟨v, T, [.ty "list", .ty "tuple"], _, [.type "list", .type "tuple"], _, rfl, upd_same, .cons (.ty _) (.cons (.ty _) .nil), (q.same s1).ty, kit_seq d, _, rfl, ?_⟩
      rw [no]
      exact k _ s1
end
end Wp
set_option Elab.async false
set_option linter.all false
set_option maxRecDepth 100000
set_option maxHeartbeats 4000000
namespace Wp
open PySem L2
/-! ## what goes together -/
def tru : PyData → Bool
  | .bool b => b
  | _ => false
def canBe (b f h k r : PyData) : Bool := isBool f && isBool h && isBool r && !(!isNon b && (tru f || tru h)) && !(tru h && (tru f || !isNon k)) && (!isNon k || !tru r)
/-- an if whose test changes nothing -/
theorem if_pure {tA : TT} {ta tb t2 : TS} {D : Ends} {σ : L2.St} {H : Hp} {c : Bool} (h : ∀ R : Bool → Hp → Prop, R c H → tA σ H R) (k : if c = true then ta { D with nx := t2 D } σ H else tb { D with nx := t2 D } σ H) : tSeq (tIfS tA ta tb) t2 D σ H := h _ k
theorem next_if {tA : TT} {ta tb t2 : TS} {D D0 : Ends} {σ : L2.St} {H : Hp} {c : Bool} (e : D0.nx = tSeq (tIfS tA ta tb) t2 D) (h : ∀ R : Bool → Hp → Prop, R c H → tA σ H R) (k : if c = true then ta { D with nx := t2 D } σ H else tb { D with nx := t2 D } σ H) : tNext D0 σ H := by
  show D0.nx σ H
  rw [e]
  exact h _ k
def spCB (K : PySem.W.Frag) : Sp := fun vs H Q _ => ∃ (ub uf uh uk ur : V) (b f h k r : PyData), vs = [ub, uf, uh, uk, ur] ∧ Dq K H ub b ∧ Dq K H uf f ∧ Dq K H uh h ∧ Dq K H uk k ∧ Dq K H ur r ∧ ∀ H', Same H H' → Q (.bl (canBe b f h k r)) H'
theorem Dq.bool_of {K : PySem.W.Frag} {H : Hp} {v : V} {d : PyData} (q : Dq K H v d) (e : isBool d = true) : ∃ b, v = .bl b ∧ d = .bool b := by
  cases d <;> cases e
  cases q with
  | dat q _ =>
    cases q
    exact ⟨_, rfl, rfl⟩
section
variable {P : Program} {w : World} {K : PySem.W.Frag} {mg : Str → Option Value} {base : Heap}
abbrev sCB : Stmt := top 26
theorem scCB : FnScope ["base", "frozen", "heirs", "key", "registered", "part"] ["base", "frozen", "heirs", "key", "registered"] (defScope sCB) := ⟨rfl, rfl, rfl, by decide +kernel, rfl, by decide +kernel, by decide +kernel⟩
theorem ok_CB {f : Addr} {fd : FuncData} (F : Fun K "_can_be" "_can_be" sCB f fd) (B : Bn mg) : FnOk P w K mg base CX0 1 f fd ["base", "frozen", "heirs", "key", "registered"] (spCB K) := by
  refine F.ok scCB (fun vs H Q E h => ?_) (fun cdv A outer s H vs Q E hr h => ?_)
  · obtain ⟨ub, uf, uh, uk, ur, b, f, h, k, r, rfl, _⟩ := h
    rfl
  · obtain ⟨ub, uf, uh, uk, ur, b, f, h, k, r, rfl, qb, qf, qh, qk, qr, k1⟩ := h
    refine ⟨_, pss_cons (ps_if (pt_not (pt_val (pe_callB (cr_all rfl) (by rfl) B.all boot_all (pa_cons (pe_lc (own := [("part", 5)]) (g := gName 5) (tt := tYes) (te := tCB (rIsi K) (tCons (tVar 5) (tCons (tC (.ty "bool")) tNil))) rfl scCB.nd
          (pi_tup (pe_tup (pa_cons (pv 1) (pa_cons (pv 2) (pa_cons (pv 4) pa_nil)))))
          (blkOk_by (N := ["base", "frozen", "heirs", "key", "registered", "part"]) (sc := defScope sCB) (by decide +kernel)) (fun _ _ _ _ _ => pg_name (i := 5) scCB.nd rfl (Or.inl rfl)) (fun _ _ _ _ _ => pts_nil)
          (fun _ _ _ _ _ => pe_callB call_isi (by rfl) B.isi boot_isi (pa_cons (pv 5) (pa_cons (pe_bltn (v := .ty "bool") (by rfl) B.bool boot_tbool rfl) pa_nil)))) pa_nil))))
        (pss_one (ps_ret pe_bl)) pss_nil)
      (pss_cons (ps_if (PW.pt (pw_and (pt_cmpR op_notN (pv 0) pe_non (nomark _)) (pw_and1 (PW.pt (pw_or (pt_val (pv 1)) (pw_or1 (pt_val (pv 2))))))))
        (pss_one (ps_ret pe_bl)) pss_nil)
      (pss_cons (ps_if (PW.pt (pw_and (pt_val (pv 2)) (pw_and1 (PW.pt (pw_or (pt_val (pv 1)) (pw_or1 (pt_cmpR op_notN (pv 3) pe_non (nomark _))))))))
        (pss_one (ps_ret pe_bl)) pss_nil)
      (pss_one (ps_ret (pe_or (pe_cmpR op_notN (pv 3) pe_non (nomark _)) (pe_one (pe_not (pv 4)))))))), ?_⟩
    refine ⟨_, rfl, _, rfl, _, rfl, by show 3 ≤ sizeLine; decide, fun T hT => ?_⟩
    have s1 : Same H (upd H T (.tup [uf, uh, ur])) := same_new hT
    refine ⟨T, rfl, ⟨_, SqT.of upd_same⟩, fun D0 hD0 => ?_⟩
    refine lc_grow (xs := [uf, uh, ur]) (f := fun j => V.bl (isBool ([f, h, r].getD j .none))) walk_tup (by show 3 ≤ 1000; decide) (fun H' z => sqT_same z (SqT.of upd_same)) hD0 ?_ ?_
    · intro j x H1 R hx sm k2
      have s2 := s1.trans sm
      have r1 := k2 H1 (Same.refl _)
      have key : ∀ (x : V) (d : PyData), Dq K H x d → R (.bl (isBool d)) H1 → tCB (rIsi K) (tCons (tVar 5) (tCons (tC (.ty "bool")) tNil)) ((List.set (L2.start ["base", "frozen", "heirs", "key", "registered", "part"] [ub, uf, uh, uk, ur]) 5 none).set 5 (some x)) H1 R :=
        fun x d q r2 => ⟨_, rfl, x, .ty "bool", _, .type "bool", _, rfl, .ty _, (q.same s2).ty, kit_bool d, r2⟩
      match j, hx with
      | 0, hx => cases hx; exact key _ _ qf r1
      | 1, hx => cases hx; exact key _ _ qh r1
      | 2, hx => cases hx; exact key _ _ qr r1
    · intro H' s2 hL
      have s3 := s1.trans s2
      refine ⟨D0, [isBool f, isBool h, isBool r], rfl, SqL.of hL, _, rfl, ?_⟩
      have fin : ∀ c, canBe b f h k r = c → Q (.bl c) H' := fun c e => e ▸ k1 H' s3
      have bad : (isBool f && isBool h && isBool r) = false → Q (.bl false) H' := fun e => fin false (by simp only [canBe, e, Bool.false_and])
      have ea : [isBool f, isBool h, isBool r].all id = (isBool f && isBool h && isBool r) := by
        simp [Bool.and_assoc]
      rw [ea]
      cases e0 : (isBool f && isBool h && isBool r) with
      | false => exact bad e0
      | true =>
        have e1 := e0
        simp only [Bool.and_eq_true] at e1
        obtain ⟨x, rfl, rfl⟩ := qf.bool_of e1.1.1
        obtain ⟨y, rfl, rfl⟩ := qh.bool_of e1.1.2
        obtain ⟨z, rfl, rfl⟩ := qr.bool_of e1.2
        have nb := qb.non
        have nk := qk.non
        have ec : canBe b (.bool x) (.bool y) k (.bool z) = (!(!isNon b && (x || y)) && !(y && (x || !isNon k)) && (!isNon k || !z)) := by
          simp only [canBe, isBool, tru, Bool.true_and]
        refine iteF ?_
        unfold tNext
        dsimp only
        refine if_pure (c := !isNon b && (x || y)) (fun R hR => ?_) ?_
        · refine ⟨_, rfl, rfl, _, rfl, ?_⟩
          rw [nb]
          revert hR
          cases isNon b with
          | true => exact fun hR => hR
          | false =>
            intro hR
            refine ⟨_, rfl, x, rfl, ?_⟩
            cases x with
            | true => exact hR
            | false => exact ⟨_, rfl, y, rfl, hR⟩
        cases c1 : (!isNon b && (x || y)) with
        | true => exact fin false (by rw [ec, c1]; simp)
        | false =>
          refine iteF ?_
          dsimp only
          refine if_pure (c := y && (x || !isNon k)) (fun R hR => ?_) ?_
          · refine ⟨_, rfl, y, rfl, ?_⟩
            cases y with
            | false => exact hR
            | true =>
              refine ⟨_, rfl, x, rfl, ?_⟩
              cases x with
              | true => exact hR
              | false =>
                refine ⟨_, rfl, rfl, _, rfl, ?_⟩
                rw [nk]
                exact hR
          cases c2 : (y && (x || !isNon k)) with
          | true => exact fin false (by rw [ec, c1, c2]; simp)
          | false =>
            have f2 := fin _ ec
            rw [c1, c2] at f2
            refine ⟨_, rfl, rfl, _, rfl, ?_⟩
            rw [nk]
            cases c3 : isNon k with
            | false =>
              rw [c3] at f2
              exact f2
            | true =>
              rw [c3] at f2
              exact ⟨_, rfl, z, rfl, f2⟩
end
end Wp
set_option Elab.async false
set_option linter.all false
set_option maxRecDepth 100000
set_option maxHeartbeats 4000000
namespace Wp
open PySem PySem.Spec PyProof.Rows L2
section
variable {prog : Program} {w : World} {A : Around} {s : Shared} {d : Addr} {o : Obj}
theorem dict_noN {z : Str} {t : Tok} {E : Value → Shared → Prop} {Q : Value → Shared → Prop} (ho : s.heap.get? d = some o) (hc : o.cls = .type "dict") (q : Q .notImplemented s) :
    wpAny (model prog w) A (call (.builtin "dict.__ne__") [.ref d, .str z t]) Q E s := by
  have ty : s.TypeIs (.ref d) "dict" := ⟨o, ho, hc⟩
  refine wpAny_call_entry PySem.F.slot_dict_ne ty PySem.F.entry_dict_ne ?_ (PySem.F.args_dict_ne_2 _ _)
  show wpAny _ _ (Builtin.Dict.dictSlotArgs "__ne__" ⟨[.ref d, .str z t], []⟩ >>= _) _ _ s
  apply wpAny_bind
  unfold Builtin.Dict.dictSlotArgs
  apply wpAny_bind
  apply wpAny_notOrdered_dict ty
  show wpAny _ _ (pure (Value.ref d, Value.str z t)) _ _ s
  apply wpAny_pure
  apply wpAny_bind
  refine wpAny_isInstance (T := "str") (typeIs_str s z t) subSD ?_
  simp only [Bool.not_false, if_true]
  exact wpAny_bind (wpAny_rule (wpAny_pure ⟨_, rfl, q⟩))
theorem str_noN {z : Str} {t : Tok} {es : Array DictEntry} {ep : Nat} {E : Value → Shared → Prop} {Q : Value → Shared → Prop} (ho : s.heap.get? d = some o) (hd : o.data = .dict es ep) (q : Q .notImplemented s) :
    wpAny (model prog w) A (call (.builtin "str.__ne__") [.str z t, .ref d]) Q E s := by
  refine wpAny_call_entry PySem.F.slot_str_ne (typeIs_str s z t) PySem.F.entry_str_ne ?_ (PySem.F.args_str_ne_2 _ _)
  obtain ⟨hp, g, dr, tk, os⟩ := s
  wp_walk using wpAny_load ho
  rw [hd]
  wp_walk
  exact ⟨_, rfl, q⟩
theorem rc_txtDictN {es : Array DictEntry} {ep : Nat} {Q E : Value → Shared → Prop} (z : Str) (t : Tok) (ho : s.heap.get? d = some o) (hc : o.cls = .type "dict") (hd : o.data = .dict es ep) (hu : A.units < cLine) (q : Q (.bool true) s) :
    wpAny (model prog w) A (richCompare .NotEq (.str z t) (.ref d)) Q E s :=
  SeqAt.rc_ne_decline_or (k := false) (typeIs_str s z t) ⟨o, ho, hc⟩ (by decide) subDS PySem.F.slot_str_ne PySem.F.slot_dict_ne_refl (fun _ q => str_noN ho hd q) (fun _ q => dict_noN ho hc q) (fun _ q => wpAny_of_eq (rfl : isSame (.str z t) (.ref d) = pure false) q) (.inr hu) q
end
section
variable {X : Cx}
/-- 'text' != x -/
def rTxtNe (K : PySem.W.Frag) : R2 := fun x y H Q => ∃ (z : Str) (d : PyData), x = .str z ∧ SeqAt.shaped (.str z) = true ∧ Dq K H y d ∧ Q (.bl (!isTxt d z)) H
theorem op_txtNe (hu : X.A.units + 64 < cLine) : OpR X (compareOp .NotEq) (rTxtNe X.K) := by
  rintro pins s σ H x y v u Q I rx ry ⟨z, d, rfl, hz, q, k⟩
  cases q with
  | dat q sh =>
    refine op_neD hu pins s σ H (.str z) y v u Q I rx ry ⟨.str z, d, .str z, q, hz, sh, ?_⟩
    rw [txt_eqv]
    exact k
  | dct h =>
    cases ry
    obtain ⟨t, rfl⟩ := rx
    obtain ⟨o, es, ep, ho, hc, hd, _⟩ := dict_obj I h
    show wpAny _ _ (richCompare .NotEq _ _) _ _ _
    exact rc_txtDictN z t ho hc hd (by omega) ⟨.bl true, H, I, rfl, k⟩
end
/-! ## a kind is made -/
abbrev sKI : Stmt := meth 27 0
abbrev sKE : Stmt := meth 27 1
def namedOk (n k : PyData) : Bool := isKindName n && (isNon k || isFieldName k)
def basedOk (n b : PyData) : Bool := isNon b || (isKindName b && (match b with
  | .str z => !isTxt n z
  | _ => false))
/-- fields: the items, or none for what is no list or tuple -/
def fieldsOk : Option (List Item) → Bool
  | some its => areFields its
  | none => false
def kindRight (n : PyData) (fs : Option (List Item)) (b f h k r : PyData) : Bool := namedOk n k && basedOk n b && fieldsOk fs && canBe b f h k r
def fsK (n fs b f h k r : V) : List (Str × V) := [("name", n), ("fields", fs), ("base", b), ("frozen", f), ("heirs", h), ("key", k), ("registered", r)]
/-- an argument in the place of the fields -/
def FsAt (K : PySem.W.Frag) (CF : Addr) (H : Hp) (v : V) : Option (List Item) → Prop
  | some its => ∃ (a : Addr) (us : List V), v = .ref a ∧ (SqL K H a us ∨ SqT K H a us) ∧ Paired (ItAt K CF H) us its ∧ its.length ≤ 1000
  | none => ∃ d : PyData, Dq K H v d ∧ (isLst d || isTup d) = false
theorem FsAt.same {K : PySem.W.Frag} {CF : Addr} {H H' : Hp} {v : V} {o : Option (List Item)} (h : FsAt K CF H v o) (s : Same H H') : FsAt K CF H' v o := by
  cases o with
  | some its =>
    obtain ⟨a, us, e, sq, pr, few⟩ := h
    exact ⟨a, us, e, sq.imp (sqL_same s) (sqT_same s), L2.Paired.mapP pr fun _ _ z => z.same s, few⟩
  | none =>
    obtain ⟨d, q, no⟩ := h
    exact ⟨d, q.same s, no⟩
/-- the same, by the things that stand in it -/
def FsU (K : PySem.W.Frag) (CF : Addr) (H : Hp) (v : V) (us : List V) : Option (List Item) → Prop
  | some its => ∃ a : Addr, v = .ref a ∧ (SqL K H a us ∨ SqT K H a us) ∧ Paired (ItAt K CF H) us its ∧ its.length ≤ 1000
  | none => ∃ d : PyData, Dq K H v d ∧ (isLst d || isTup d) = false
theorem FsU.at_ {K : PySem.W.Frag} {CF : Addr} {H : Hp} {v : V} {us : List V} {o : Option (List Item)} (h : FsU K CF H v us o) : FsAt K CF H v o := by
  cases o with
  | none => exact h
  | some its =>
    obtain ⟨a, e, q⟩ := h
    exact ⟨a, us, e, q⟩
theorem FsAt.u {K : PySem.W.Frag} {CF : Addr} {H : Hp} {v : V} {o : Option (List Item)} (h : FsAt K CF H v o) : ∃ us, FsU K CF H v us o := by
  cases o with
  | none => exact ⟨[], h⟩
  | some its =>
    obtain ⟨a, us, e, q⟩ := h
    exact ⟨us, a, e, q⟩
theorem FsU.same {K : PySem.W.Frag} {CF : Addr} {H H' : Hp} {v : V} {us : List V} {o : Option (List Item)} (h : FsU K CF H v us o) (s : Same H H') : FsU K CF H' v us o := by
  cases o with
  | some its =>
    obtain ⟨a, e, sq, pr, few⟩ := h
    refine ⟨a, e, ?_, L2.Paired.mapP pr fun _ _ z => z.same s, few⟩
    rcases sq with sq | sq
    · exact .inl (sqL_same s sq)
    · exact .inr (sqT_same s sq)
  | none =>
    obtain ⟨d, q, no⟩ := h
    exact ⟨d, q.same s, no⟩
def spKI (K : PySem.W.Frag) (CF CK CB : Addr) : Sp := fun vs H Q E => ∃ (x dx : Addr) (un ufs ub uf uh uk ur : V) (n b f h k r : PyData) (o : Option (List Item)) (us : List V), vs = [.ref x, un, ufs, ub, uf, uh, uk, ur] ∧ H x = some (.ins CK dx []) ∧
  Dq K H un n ∧ FsU K CF H ufs us o ∧ Dq K H ub b ∧ Dq K H uf f ∧ Dq K H uh h ∧ Dq K H uk k ∧ Dq K H ur r ∧ Shrt n ∧ Shrt b ∧ Shrt k ∧
  (kindRight n o b f h k r = true → ∀ (H' : Hp) (tf : Addr), But x H H' → H' x = some (.ins CK dx (fsK un (.ref tf) ub uf uh uk ur)) → SqT K H' tf us → Q .non H') ∧
  (kindRight n o b f h k r = false → ∀ (H' : Hp) (e : Addr), Same H H' → H e = none → H' e = some (.xd [("name", un)]) → E (.ref CB) (some e) H')
section
variable {P : Program} {w : World} {K : PySem.W.Frag} {mg : Str → Option Value} {base : Heap}
theorem scKI : FnScope ["self", "name", "fields", "base", "frozen", "heirs", "key", "registered", "named", "based"] ["self", "name", "fields", "base", "frozen", "heirs", "key", "registered"] (defScope sKI) := ⟨rfl, rfl, rfl, by decide +kernel, rfl, by decide +kernel, by decide +kernel⟩
end
end Wp
set_option Elab.async false
set_option linter.all false
set_option maxRecDepth 100000
set_option maxHeartbeats 4000000
namespace Wp
open PySem PySem.Spec PyProof.Rows L2
/-! ## an own exception made where its context is None -/
section
variable {X : Cx} {e : Expr} {es : List Expr} {ta : TA} {p pos : Pos}
theorem pmk_oexN {CX : CXT} {x : Str} {C fI : Addr} {k : Nat} {fd : FuncData} {ps : List Str} {sp : Sp} (T : OexC X.K C) (iC : PySem.W.findIn X.K (.ref C) "__init__" = some (some (.ref fI))) (tI : PySem.W.typeIn X.K (.ref fI) = some (.type "function"))
    (F1 : FnOk X.prog X.w X.K X.mg X.base CX k fI fd ps sp) (hr : Room (k + 1) X.A) (hb : Binds X.K fd ps []) (hx : Passes CX X (fun _ _ _ => False)) (hg : Gl X x) (hm : X.mg x = some (.ref C)) (ha : PA X (e :: es) ta)
    (hdb : (x == ("__debug__" : Str)) = false := by decide) (he : starEach (e :: es) X.env = (false, eval e X.env) :: starEach es X.env := by rfl) (hpl : (backTo pos (starEach es X.env)).any (·.1) = false := by rfl) :
    L2N.PMk X (.Call (.Name x p) (e :: es) [] pos) (tMkO C sp [] ta) := by
  intro pins s σ H Q I h
  obtain ⟨nm, q, N, bs, bm, sn, sub, ab, col, dd, k0, k1, k2, k3, k5, hC, hbm⟩ := T.cls
  refine wpAny_Call_Name_kw (ld_glob I hg hm ?_ hdb)
  refine PySem.W.callWith_K (h₀ := X.base) I.ok.mod.kin T.kC (thn (ha.run pos pins s σ H _ I h) fun us s1 ⟨vs, H1, I1, r1, hz, q1⟩ => ⟨I1.kIn, ?_⟩) he hpl
  show wpAny _ _ (call (.ref C) us) _ _ _
  obtain ⟨hp, g, dr, tk, os⟩ := s1
  have hsz : hp.objs.size ≤ hp.objs.size + 1 := Nat.le_succ _
  have hn : H1 (hp.objs.size + 1) = none := I1.hok.fresh hsz
  have hq := q1 (hp.objs.size + 1) hn
  have kk : ∀ b o, hp.get? b = some o → ((hp.push (PySem.W.kdv_tup us)).push (PySem.HandSPX.excO C hp.objs.size)).get? b = some o := fun b o e => Heap.get?_push_of_some _ (Heap.get?_push_of_some _ e)
  have hget : ((hp.push (PySem.W.kdv_tup us)).push (PySem.HandSPX.excO C hp.objs.size)).get? (hp.objs.size + 1) = some (PySem.HandSPX.excO C hp.objs.size) := by heap_get
  have I2 : Inv X pins σ (upd H1 (hp.objs.size + 1) (exo (hp.objs.size + 1) C none)) ⟨(hp.push (PySem.W.kdv_tup us)).push (PySem.HandSPX.excO C hp.objs.size), g, dr, tk, os⟩ :=
    I1.laid (t' := tk) (a := hp.objs.size + 1) (o := exo (hp.objs.size + 1) C none) (h' := (hp.push (PySem.W.kdv_tup us)).push (PySem.HandSPX.excO C hp.objs.size)) kk hsz (exo_ok hget)
  have r2 : Vals (V.ref (hp.objs.size + 1) :: (vs ++ [])) (Value.ref (hp.objs.size + 1) :: (us ++ [])) := .cons rfl (r1.append .nil)
  have hl : (Value.ref (hp.objs.size + 1) :: us ++ ([] : List Value)).length = ps.length := by
    have e := r2.length
    rw [F1.len _ _ _ _ hq] at e
    exact e.symm
  have hus : us.length ≤ sizeLine := by
    rw [← Paired.length r1, sizeLine_eq]
    omega
  refine wpAny_call (PySem.HandSPX.call_own F.excBase_ValueError (fun Y => PySem.HandSPX.refsVE_contains Y bm hbm) (I1.kIn _ _ hC) (PySem.W.looks_findIn I1.kIn iC) (fun self => PySem.W.bind_fn I1.kIn self tI) hus
    (codeAny_mono (F1.run _ X.stack _ _ ⟨Value.ref (hp.objs.size + 1) :: us, []⟩ (Value.ref (hp.objs.size + 1) :: (us ++ [])) _ _ (fun _ _ _ => False) (hr.make C us []) (I2.env0.make C us []) (by simpa using hb _ (Value.ref (hp.objs.size + 1) :: us) I2.kIn hl) r2 hq) fun r s' hq' => ?_))
  cases r with
  | error er => exact hx pins σ _ _ er s' I2 hq'
  | ok fl =>
    cases fl with
    | ret u =>
      obtain ⟨v, H2, os2, bare2, un2, hok2, rv, ev, d, fs, ea, ed, hd1, q2⟩ := hq'
      subst ev
      obtain ⟨h2, g2, d2, t2, os'⟩ := s'
      obtain ⟨t0, G, J, kG, ge, hoe, na⟩ := mk_end0 (d2 := d2) (t2 := t2) I1 hsz kk un2 hok2 os2 bare2 ea ed hd1
      exact ⟨rv, ⟨_, _, _, ⟨G, g2, d2, t2, os'⟩, _, .ref C, some d, rfl, J, kG, ge, hoe, ⟨rfl, rfl, fun vs e => by cases e; rfl⟩, rfl, rfl, na, rfl, bare2, raises_own T.exC T.tyC, q2⟩⟩
    | next => exact False.elim hq'
    | brk => exact False.elim hq'
    | cont => exact False.elim hq'
end
theorem passN {P : Program} {w : World} {X : Cx} : Passes (L2N.CX P w) X E0 := fun _ _ _ _ _ _ _ ⟨_, _, _, _, _, _, _, _, _, _, _, _, h⟩ => h.elim
end Wp
set_option Elab.async false
set_option linter.all false
set_option maxRecDepth 100000
set_option maxHeartbeats 4000000
namespace Wp
open PySem L2
section
variable {K : PySem.W.Frag} {t2 : TS} {D : Ends} {σ : L2.St} {H : Hp} {un ub uk : V} {n b k : PyData}
abbrev tIsN (i : Nat) : TE := tOp (fun x y H Q => y = .non ∧ Q (.bl (decide (x = .non))) H) (tVar i) (tC .non)
theorem sq_named (e1 : σ[1]? = some (some un)) (e6 : σ[6]? = some (some uk)) (qn : Dq K H un n) (sn : Shrt n) (qk : Dq K H uk k) (sk : Shrt k) (c : ∀ H1, Same H H1 → t2 D (σ.set 8 (some (.bl (namedOk n k)))) H1) :
    tSeq (tAsg (tAndV (tCall (spIsKind K) [] E0 (tCons (tVar 1) tNil)) (tOrV (tIsN 6) (tCall (spIsField K) [] E0 (tCons (tVar 6) tNil)))) (gName 8)) t2 D σ H := by
  refine ⟨_, e1, un, n, rfl, qn, sn, fun H1 s1 => ⟨_, rfl, ?_⟩⟩
  cases h1 : isKindName n with
  | false =>
    have r := c H1 s1
    simp only [namedOk, h1, Bool.false_and] at r
    exact r
  | true =>
    refine ⟨_, e6, rfl, _, rfl, ?_⟩
    rw [qk.non]
    cases h2 : isNon k with
    | true =>
      have r := c H1 s1
      simp only [namedOk, h1, h2, Bool.true_or, Bool.true_and] at r
      exact r
    | false =>
      refine ⟨_, e6, uk, k, rfl, qk.same s1, sk, fun H2 s2 => ?_⟩
      have r := c H2 (s1.trans s2)
      simp only [namedOk, h1, h2, Bool.false_or, Bool.true_and] at r
      exact r
theorem sq_based (e1 : σ[1]? = some (some un)) (e3 : σ[3]? = some (some ub)) (qn : Dq K H un n) (qb : Dq K H ub b) (sb : Shrt b) (c : ∀ H1, Same H H1 → t2 D (σ.set 9 (some (.bl (basedOk n b)))) H1) :
    tSeq (tAsg (tOrV (tIsN 3) (tAndV (tCall (spIsKind K) [] E0 (tCons (tVar 3) tNil)) (tOp (rTxtNe K) (tVar 3) (tVar 1)))) (gName 9)) t2 D σ H := by
  refine ⟨_, e3, rfl, _, rfl, ?_⟩
  rw [qb.non]
  cases h1 : isNon b with
  | true =>
    have r := c H (Same.refl _)
    simp only [basedOk, h1, Bool.true_or] at r
    exact r
  | false =>
    refine ⟨_, e3, ub, b, rfl, qb, sb, fun H1 s1 => ⟨_, rfl, ?_⟩⟩
    cases h2 : isKindName b with
    | false =>
      have r := c H1 s1
      simp only [basedOk, h1, h2, Bool.false_or, Bool.false_and] at r
      exact r
    | true =>
      obtain ⟨z, rfl⟩ : ∃ z, b = .str z := by
        cases b <;> first | exact ⟨_, rfl⟩ | exact absurd h2 (by simp [isKindName])
      obtain rfl := qb.str_of
      have sz : SeqAt.shaped (.str z) = true := by
        cases qb with
        | dat _ sh => exact sh
      refine ⟨_, e3, _, e1, z, n, rfl, sz, qn.same s1, ?_⟩
      have r := c H1 s1
      simp only [basedOk, h1, h2, Bool.false_or, Bool.true_and] at r
      exact r
end
section
variable {P : Program} {w : World} {K : PySem.W.Frag} {mg : Str → Option Value} {base : Heap}
theorem ok_KI {params : Arguments} {f f1 f2 f3 f4 CF CK CB fB : Addr} {fd fd1 fd2 fd3 fd4 fdB : FuncData} {kws : List (Str × V)} (F : FunD K "__init__" "Kind.__init__" params (defBody sKI) (defScope sKI) [] kws f fd) (B : Bn mg)
    (NK : Known P w K mg base CX0 1 "is_kind_name" ["value"] (spIsKind K) f1 fd1) (NF : Known P w K mg base CX0 2 "is_field_name" ["value"] (spIsField K) f2 fd2) (AF : Known P w K mg base CX0 2 "_are_fields" ["fields"] (spAF K CF) f3 fd3)
    (CC : Known P w K mg base CX0 1 "_can_be" ["base", "frozen", "heirs", "key", "registered"] (spCB K) f4 fd4) (M : Mk1 P w K mg base "BadKind" "name" CB fB fdB) (C : PlainC K CK ["name", "fields", "base", "frozen", "heirs", "key", "registered"]) :
    FnOk P w K mg base (L2N.CX P w) 3 f fd ["self", "name", "fields", "base", "frozen", "heirs", "key", "registered"] (spKI K CF CK CB) := by
  refine F.ok scKI (fun vs H Q E h => ?_) (fun cdv A outer s H vs Q E hr h => ?_)
  · obtain ⟨x, dx, un, ufs, ub, uf, uh, uk, ur, n, b, f, h, k, r, o, us, rfl, _⟩ := h
    rfl
  · obtain ⟨x, dx, un, ufs, ub, uf, uh, uk, ur, n, b, f, hh, k, r, o, us, rfl, hx, qn, qo, qb, qf, qh, qk, qr, sn, sb, sk, k1, k2⟩ := h
    refine ⟨_, pss_cons (ps_set (i := 8) scKI.nd rfl (.inl rfl) (pe_and (pe_call NK.ok (hr.mono (by decide)) rfl NK.mg NK.kp NK.bi .nil pass0 (pa_cons (pv 1) pa_nil))
          (pe_one (pe_or (pe_cmpR op_isN (pv 6) pe_non (nomark _)) (pe_one (pe_call NF.ok hr rfl NF.mg NF.kp NF.bi .nil pass0 (pa_cons (pv 6) pa_nil)))))))
      (pss_cons (ps_set (i := 9) scKI.nd rfl (.inl rfl) (pe_or (pe_cmpR op_isN (pv 3) pe_non (nomark _)) (pe_one (pe_and (pe_call NK.ok (hr.mono (by decide)) rfl NK.mg NK.kp NK.bi .nil pass0 (pa_cons (pv 3) pa_nil))
          (pe_one (pe_cmpR (op_txtNe hr.units) (pv 3) (pv 1) (nomark _)))))))
      (pss_cons (ps_if (PW.pt (pw_or (pt_not (pt_val (pv 8))) (pw_or (pt_not (pt_val (pv 9))) (pw_or (pt_not (pt_val (pe_call AF.ok hr rfl AF.mg AF.kp AF.bi .nil pass0 (pa_cons (pv 2) pa_nil))))
          (pw_or1 (pt_not (pt_val (pe_call CC.ok (hr.mono (by decide)) rfl CC.mg CC.kp CC.bi .nil pass0 (pa_cons (pv 3) (pa_cons (pv 4) (pa_cons (pv 5) (pa_cons (pv 6) (pa_cons (pv 7) pa_nil))))))))))))) 
        (pss_one (L2N.ps_raise rfl (L2N.takes_of rfl rfl rfl rfl) (pmk_oexN M.T M.iC M.tI M.FI (hr.mono (by decide)) M.bI pass0 (by rfl) M.gC (pa_cons (pv 1) pa_nil)))) pss_nil)
      (pss_cons (ps_fld (pv 0) (pv 1) rfl)
      (pss_cons (ps_fld (pv 0) (pe_callTy call_tuple_of (by rfl) B.tuple boot_ttuple (pa_cons (pv 2) pa_nil)) rfl)
      (pss_cons (ps_fld (pv 0) (pv 3) rfl)
      (pss_cons (ps_fld (pv 0) (pv 4) rfl)
      (pss_cons (ps_fld (pv 0) (pv 5) rfl)
      (pss_cons (ps_fld (pv 0) (pv 6) rfl)
      (pss_one (ps_fld (pv 0) (pv 7) rfl)))))))))), ?_⟩
    have r0 : ∀ H1, Same H H1 → kindRight n o b f hh k r = false → [un].length ≤ 1000 ∧ ∀ a, H1 a = none → spI1 CB "name" (.ref a :: ([un] ++ [])) (upd H1 a (exo a CB none))
        (fun u H2 => u = .non ∧ ∃ (d : Addr) (fs : List (Str × V)), H2 a = some (exo a CB (some d)) ∧ H2 d = some (exd d fs) ∧ H1 d = none ∧ E (.ref CB) (some d) (upd (L2.del H2 a) d (.xd fs))) (fun _ _ _ => False) :=
      fun H1 s1 bad => rs1 (Q := E) fun d0 nd => k2 bad _ d0 (s1.trans (same_new nd)) (none_of s1 nd) upd_same
    refine sq_named (by rfl) (by rfl) qn sn qk sk fun H1 s1 => ?_
    refine sq_based (by rfl) (by rfl) (qn.same s1) (qb.same s1) sb fun H2 s2 => ?_
    have s12 := s1.trans s2
    refine ⟨_, rfl, _, rfl, ?_⟩
    cases hN : namedOk n k with
    | false => exact ⟨un, rfl, r0 H2 s12 (by simp only [kindRight, hN, Bool.false_and])⟩
    | true =>
      refine ⟨_, rfl, _, rfl, ?_⟩
      cases hB : basedOk n b with
      | false => exact ⟨un, rfl, r0 H2 s12 (by simp only [kindRight, hN, hB, Bool.false_and, Bool.and_false])⟩
      | true =>
        have hAF : ∀ (Q' : VK) (E' : XK), (∀ H3, Same H2 H3 → Q' (.bl (fieldsOk o)) H3) → spAF K CF [ufs] H2 Q' E' := by
          intro Q' E' c
          have q := (qo.same s12).at_
          cases o with
          | some its =>
            obtain ⟨a, us, e, sq, pr, few⟩ := q
            exact ⟨ufs, rfl, .inl ⟨a, us, its, e, sq, pr, few, c⟩⟩
          | none =>
            obtain ⟨d, q, no⟩ := q
            exact ⟨ufs, rfl, .inr ⟨d, q, no, c⟩⟩
        refine ⟨_, rfl, ?_⟩
        dsimp only [tNil, List.append_nil]
        refine hAF _ _ fun H3 s3 => ⟨_, rfl, ?_⟩
        have s123 := s12.trans s3
        cases hF : fieldsOk o with
        | false => exact ⟨un, rfl, r0 H3 s123 (by simp only [kindRight, hN, hB, hF, Bool.false_and, Bool.and_false])⟩
        | true =>
          refine ⟨_, rfl, _, rfl, _, rfl, _, rfl, _, rfl, ub, uf, uh, uk, ur, b, f, hh, k, r, rfl, qb.same s123, qf.same s123, qh.same s123, qk.same s123, qr.same s123, fun H4 s4 => ⟨_, rfl, ?_⟩⟩
          have s14 := s123.trans s4
          cases hC : canBe b f hh k r with
          | false => exact ⟨un, rfl, r0 H4 s14 (by simp only [kindRight, hC, Bool.and_false])⟩
          | true =>
            have right : kindRight n o b f hh k r = true := by simp only [kindRight, hN, hB, hF, hC, Bool.and_true]
            have hx4 := s14 _ _ hx
            obtain ⟨its, rfl⟩ : ∃ its, o = some its := by
              cases o with
              | none => cases hF
              | some its => exact ⟨its, rfl⟩
            obtain ⟨a, rfl, sq0, pr, few⟩ := qo
            refine ⟨_, rfl, _, rfl, x, CK, dx, _, rfl, hx4, C.cl, C.no _ (by simp), (by decide), ?_⟩
            refine ⟨_, rfl, a, us, rfl, ?_⟩
            have fin : ∀ (tf : Addr) (H5 : Hp), (∃ fs, H5 x = some (.ins CK dx fs)) → But x H H5 → SqT K H5 tf us → Q .non (upd H5 x (.ins CK dx (fsK un (.ref tf) ub uf uh uk ur))) := by
              rintro tf H5 ⟨fs, e9⟩ b5 sT
              refine k1 right _ tf (fun b o ne e => ?_) upd_same (sqT_off sT e9)
              rw [upd_ne ne]
              exact b5 b o ne e
            rcases sq0 with sq0 | sq0
            · have sq := sqL_same s14 sq0
              refine .inl ⟨sqL_off sq hx4, fun l hl => ?_⟩
              have nl : l ≠ x := fun z => by rw [z, upd_same] at hl; cases hl
              have hl4 : H4 l = none := by rw [upd_ne nl] at hl; exact hl
              refine ⟨_, rfl, x, CK, dx, _, rfl, (upd_ne (Ne.symm nl)).trans upd_same, C.cl, C.no _ (by simp), (by show 1 < 1000; decide), ?_⟩
              refine ⟨_, rfl, _, rfl, x, CK, dx, _, rfl, upd_same, C.cl, C.no _ (by simp), (by show 2 < 1000; decide), ?_⟩
              refine ⟨_, rfl, _, rfl, x, CK, dx, _, rfl, upd_same, C.cl, C.no _ (by simp), (by show 3 < 1000; decide), ?_⟩
              refine ⟨_, rfl, _, rfl, x, CK, dx, _, rfl, upd_same, C.cl, C.no _ (by simp), (by show 4 < 1000; decide), ?_⟩
              refine ⟨_, rfl, _, rfl, x, CK, dx, _, rfl, upd_same, C.cl, C.no _ (by simp), (by show 5 < 1000; decide), ?_⟩
              refine ⟨_, rfl, _, rfl, x, CK, dx, _, rfl, upd_same, C.cl, C.no _ (by simp), (by show 6 < 1000; decide), ?_⟩
              rw [upd_upd, upd_upd, upd_upd, upd_upd, upd_upd]
              refine fin l _ ⟨_, (upd_ne (Ne.symm nl)).trans upd_same⟩ (fun b o ne e => ?_) (SqT.of upd_same)
              have e1 := s14 b o e
              rw [upd_ne (ne_of_none e1 hl4), upd_ne ne]
              exact e1
            · have sq := sqT_same s14 sq0
              refine .inr ⟨sqT_off sq hx4, ?_⟩
              refine ⟨_, rfl, x, CK, dx, _, rfl, upd_same, C.cl, C.no _ (by simp), (by show 1 < 1000; decide), ?_⟩
              refine ⟨_, rfl, _, rfl, x, CK, dx, _, rfl, upd_same, C.cl, C.no _ (by simp), (by show 2 < 1000; decide), ?_⟩
              refine ⟨_, rfl, _, rfl, x, CK, dx, _, rfl, upd_same, C.cl, C.no _ (by simp), (by show 3 < 1000; decide), ?_⟩
              refine ⟨_, rfl, _, rfl, x, CK, dx, _, rfl, upd_same, C.cl, C.no _ (by simp), (by show 4 < 1000; decide), ?_⟩
              refine ⟨_, rfl, _, rfl, x, CK, dx, _, rfl, upd_same, C.cl, C.no _ (by simp), (by show 5 < 1000; decide), ?_⟩
              refine ⟨_, rfl, _, rfl, x, CK, dx, _, rfl, upd_same, C.cl, C.no _ (by simp), (by show 6 < 1000; decide), ?_⟩
              rw [upd_upd, upd_upd, upd_upd, upd_upd, upd_upd]
              rw [upd_upd]
              exact fin a H4 ⟨_, hx4⟩ (fun b o ne e => s14 b o e) sq
end
end Wp
set_option Elab.async false
set_option linter.all false
set_option maxRecDepth 100000
set_option maxHeartbeats 4000000
namespace Wp
open PySem L2
/-! ## two kinds are compared -/
/-- a kind's parts; c: how many fields -/
structure KV where
  n : Str
  c : Nat
  b : Option Str
  f : Bool
  h : Bool
  k : Option Str
  r : Bool
deriving DecidableEq
theorem kv_dec {v u : KV} (e0 : v.n = u.n) (e1 : v.c = u.c) (e2 : v.b = u.b) (e3 : v.f = u.f) (e4 : v.h = u.h) (e5 : v.k = u.k) : decide (V.bl v.r = V.bl u.r) = decide (v = u) := by
  cases v
  cases u
  simp only at e0 e1 e2 e3 e4 e5
  subst e0 e1 e2 e3 e4 e5
  simp
structure KindAt (K : PySem.W.Frag) (CK : Addr) (H : Hp) (a : Addr) (v : KV) (xs : List Addr) : Prop where
  ex : ∃ dx tf, H a = some (.ins CK dx (fsK (.str v.n) (.ref tf) (tv v.b) (.bl v.f) (.bl v.h) (tv v.k) (.bl v.r))) ∧ SqT K H tf (xs.map V.ref)
  len : xs.length = v.c
theorem KindAt.same {K : PySem.W.Frag} {CK : Addr} {H H' : Hp} {a : Addr} {v : KV} {xs : List Addr} (h : KindAt K CK H a v xs) (s : Same H H') : KindAt K CK H' a v xs := by
  obtain ⟨⟨dx, tf, e, sq⟩, l⟩ := h
  exact ⟨⟨dx, tf, s _ _ e, sqT_same s sq⟩, l⟩
theorem nk_fields_name : (("fields" : Str) == "name") = false := by decide +kernel
theorem nk_base_name : (("base" : Str) == "name") = false := by decide +kernel
theorem nk_base_fields : (("base" : Str) == "fields") = false := by decide +kernel
theorem nk_frozen_name : (("frozen" : Str) == "name") = false := by decide +kernel
theorem nk_frozen_fields : (("frozen" : Str) == "fields") = false := by decide +kernel
theorem nk_frozen_base : (("frozen" : Str) == "base") = false := by decide +kernel
theorem nk_heirs_name : (("heirs" : Str) == "name") = false := by decide +kernel
theorem nk_heirs_fields : (("heirs" : Str) == "fields") = false := by decide +kernel
theorem nk_heirs_base : (("heirs" : Str) == "base") = false := by decide +kernel
theorem nk_heirs_frozen : (("heirs" : Str) == "frozen") = false := by decide +kernel
theorem nk_key_name : (("key" : Str) == "name") = false := by decide +kernel
theorem nk_key_fields : (("key" : Str) == "fields") = false := by decide +kernel
theorem nk_key_base : (("key" : Str) == "base") = false := by decide +kernel
theorem nk_key_frozen : (("key" : Str) == "frozen") = false := by decide +kernel
theorem nk_key_heirs : (("key" : Str) == "heirs") = false := by decide +kernel
theorem nk_registered_name : (("registered" : Str) == "name") = false := by decide +kernel
theorem nk_registered_fields : (("registered" : Str) == "fields") = false := by decide +kernel
theorem nk_registered_base : (("registered" : Str) == "base") = false := by decide +kernel
theorem nk_registered_frozen : (("registered" : Str) == "frozen") = false := by decide +kernel
theorem nk_registered_heirs : (("registered" : Str) == "heirs") = false := by decide +kernel
theorem nk_registered_key : (("registered" : Str) == "key") = false := by decide +kernel
theorem lk_ks (n fs b f h k r : V) : List.lookup ("name" : Str) (fsK n fs b f h k r) = some n ∧ List.lookup ("fields" : Str) (fsK n fs b f h k r) = some fs ∧ List.lookup ("base" : Str) (fsK n fs b f h k r) = some b ∧ List.lookup ("frozen" : Str) (fsK n fs b f h k r) = some f ∧ List.lookup ("heirs" : Str) (fsK n fs b f h k r) = some h ∧ List.lookup ("key" : Str) (fsK n fs b f h k r) = some k ∧ List.lookup ("registered" : Str) (fsK n fs b f h k r) = some r := by
  simp [fsK, List.lookup, nk_fields_name, nk_base_name, nk_base_fields, nk_frozen_name, nk_frozen_fields, nk_frozen_base, nk_heirs_name, nk_heirs_fields, nk_heirs_base, nk_heirs_frozen, nk_key_name, nk_key_fields, nk_key_base, nk_key_frozen, nk_key_heirs, nk_registered_name, nk_registered_fields, nk_registered_base, nk_registered_frozen, nk_registered_heirs, nk_registered_key]
/-- a kind beside a kind with the same fields in front, or beside a text -/
def spKE (K : PySem.W.Frag) (CK : Addr) : Sp := fun vs H Q _ => ∃ (a : Addr) (y : V) (v : KV) (xs : List Addr), vs = [.ref a, y] ∧ KindAt K CK H a v xs ∧
  ((∃ (b : Addr) (u : KV) (ys : List Addr), y = .ref b ∧ KindAt K CK H b u ys ∧ (∀ (i : Nat) (h1 : i < xs.length) (h2 : i < ys.length), xs[i] = ys[i]) ∧ Q (.bl (decide (v = u))) H) ∨ (∃ z : Str, y = .str z ∧ Q (.bl false) H))
section
variable {P : Program} {w : World} {K : PySem.W.Frag} {mg : Str → Option Value} {base : Heap}
theorem scKE : FnScope ["self", "other"] ["self", "other"] (defScope sKE) := ⟨rfl, rfl, rfl, by decide +kernel, rfl, by decide +kernel, by decide +kernel⟩
theorem ok_KE {f CK : Addr} {fd : FuncData} (F : Fun K "__eq__" "Kind.__eq__" sKE f fd) (B : Bn mg) (O : OwnC K CK) (C : PlainC K CK ["name", "fields", "base", "frozen", "heirs", "key", "registered"]) (g : mg "Kind" = some (.ref CK)) :
    FnOk P w K mg base CX0 1 f fd ["self", "other"] (spKE K CK) := by
  refine F.ok scKE (fun vs H Q E h => ?_) (fun cdv A outer s H vs Q E hr h => ?_)
  · obtain ⟨a, y, v, xs, rfl, _⟩ := h
    rfl
  · obtain ⟨a, y, v, xs, rfl, fa, h⟩ := h
    refine ⟨_, pss_one (ps_ret (pe_and (pe_callB call_isi (by rfl) B.isi boot_isi (pa_cons (pv 1) (pa_cons (pe_glob (v := .ref CK) (by rfl) g rfl) pa_nil)))
      (pe_and (pe_cmpR op_eq (pe_fld (pv 0) rfl) (pe_fld (pv 1) rfl) (nomark _))
      (pe_and (pe_cmpR (op_eqSame hr.units0) (pe_fld (pv 0) rfl) (pe_fld (pv 1) rfl) (nomark _))
      (pe_and (pe_cmpR op_eq (pe_fld (pv 0) rfl) (pe_fld (pv 1) rfl) (nomark _))
      (pe_and (pe_cmpR op_eq (pe_fld (pv 0) rfl) (pe_fld (pv 1) rfl) (nomark _))
      (pe_and (pe_cmpR op_eq (pe_fld (pv 0) rfl) (pe_fld (pv 1) rfl) (nomark _))
      (pe_and (pe_cmpR op_eq (pe_fld (pv 0) rfl) (pe_fld (pv 1) rfl) (nomark _))
      (pe_one (pe_cmpR op_eq (pe_fld (pv 0) rfl) (pe_fld (pv 1) rfl) (nomark _)))))))))) ), ?_⟩
    rcases h with ⟨b, u, ys, rfl, fb, same, k⟩ | ⟨z, rfl, k⟩
    · obtain ⟨dx, tf, ha, sx⟩ := fa.ex
      obtain ⟨dy, ug, hb, sy⟩ := fb.ex
      have lx := fa.len
      have ly := fb.len
      refine ⟨_, rfl, .ref b, .ref CK, .ref CK, .ref CK, true, rfl, .own CK, O.ty hb, O.self, _, rfl, ?_⟩
      have no : v ≠ u → Q (.bl false) H := fun ne => by
        rw [decide_eq_false ne] at k
        exact k
      refine ⟨_, rfl, a, CK, dx, _, _, rfl, ha, C.cl, C.no _ (by simp), (lk_ks _ _ _ _ _ _ _).1, _, rfl, b, CK, dy, _, _, rfl, hb, C.cl, C.no _ (by simp), (lk_ks _ _ _ _ _ _ _).1, rfl, _, rfl, ?_⟩
      by_cases e0 : ¬ v.n = u.n
      · rw [decide_eq_false (p := V.str v.n = V.str u.n) fun z => e0 (by injection z)]
        exact no fun z => e0 (z ▸ rfl)
      have e0 := Decidable.of_not_not e0
      rw [decide_eq_true (p := V.str v.n = V.str u.n) (by rw [e0])]
      refine ⟨_, rfl, a, CK, dx, _, _, rfl, ha, C.cl, C.no _ (by simp), (lk_ks _ _ _ _ _ _ _).2.1, _, rfl, b, CK, dy, _, _, rfl, hb, C.cl, C.no _ (by simp), (lk_ks _ _ _ _ _ _ _).2.1, tf, ug, xs, ys, rfl, rfl, sx, sy, same, _, rfl, ?_⟩
      by_cases e1 : ¬ v.c = u.c
      · have e1' : ¬ xs.length = ys.length := by omega
        rw [decide_eq_false e1']
        exact no fun z => e1 (z ▸ rfl)
      have e1 := Decidable.of_not_not e1
      rw [decide_eq_true (p := xs.length = ys.length) (by omega)]
      refine ⟨_, rfl, a, CK, dx, _, _, rfl, ha, C.cl, C.no _ (by simp), (lk_ks _ _ _ _ _ _ _).2.2.1, _, rfl, b, CK, dy, _, _, rfl, hb, C.cl, C.no _ (by simp), (lk_ks _ _ _ _ _ _ _).2.2.1, scal_tv _ _, _, rfl, ?_⟩
      by_cases e2 : ¬ v.b = u.b
      · rw [decide_eq_false (p := tv v.b = tv u.b) fun z => e2 (tv_inj z)]
        exact no fun z => e2 (z ▸ rfl)
      have e2 := Decidable.of_not_not e2
      rw [decide_eq_true (p := tv v.b = tv u.b) (by rw [e2])]
      refine ⟨_, rfl, a, CK, dx, _, _, rfl, ha, C.cl, C.no _ (by simp), (lk_ks _ _ _ _ _ _ _).2.2.2.1, _, rfl, b, CK, dy, _, _, rfl, hb, C.cl, C.no _ (by simp), (lk_ks _ _ _ _ _ _ _).2.2.2.1, rfl, _, rfl, ?_⟩
      by_cases e3 : ¬ v.f = u.f
      · rw [decide_eq_false (p := V.bl v.f = V.bl u.f) fun z => e3 (by injection z)]
        exact no fun z => e3 (z ▸ rfl)
      have e3 := Decidable.of_not_not e3
      rw [decide_eq_true (p := V.bl v.f = V.bl u.f) (by rw [e3])]
      refine ⟨_, rfl, a, CK, dx, _, _, rfl, ha, C.cl, C.no _ (by simp), (lk_ks _ _ _ _ _ _ _).2.2.2.2.1, _, rfl, b, CK, dy, _, _, rfl, hb, C.cl, C.no _ (by simp), (lk_ks _ _ _ _ _ _ _).2.2.2.2.1, rfl, _, rfl, ?_⟩
      by_cases e4 : ¬ v.h = u.h
      · rw [decide_eq_false (p := V.bl v.h = V.bl u.h) fun z => e4 (by injection z)]
        exact no fun z => e4 (z ▸ rfl)
      have e4 := Decidable.of_not_not e4
      rw [decide_eq_true (p := V.bl v.h = V.bl u.h) (by rw [e4])]
      refine ⟨_, rfl, a, CK, dx, _, _, rfl, ha, C.cl, C.no _ (by simp), (lk_ks _ _ _ _ _ _ _).2.2.2.2.2.1, _, rfl, b, CK, dy, _, _, rfl, hb, C.cl, C.no _ (by simp), (lk_ks _ _ _ _ _ _ _).2.2.2.2.2.1, scal_tv _ _, _, rfl, ?_⟩
      by_cases e5 : ¬ v.k = u.k
      · rw [decide_eq_false (p := tv v.k = tv u.k) fun z => e5 (tv_inj z)]
        exact no fun z => e5 (z ▸ rfl)
      have e5 := Decidable.of_not_not e5
      rw [decide_eq_true (p := tv v.k = tv u.k) (by rw [e5])]
      refine ⟨_, rfl, a, CK, dx, _, _, rfl, ha, C.cl, C.no _ (by simp), (lk_ks _ _ _ _ _ _ _).2.2.2.2.2.2, _, rfl, b, CK, dy, _, _, rfl, hb, C.cl, C.no _ (by simp), (lk_ks _ _ _ _ _ _ _).2.2.2.2.2.2, rfl, ?_⟩
      rw [show decide (V.bl v.r = V.bl u.r) = decide (v = u) from kv_dec e0 e1 e2 e3 e4 e5]
      exact k
    · exact ⟨_, rfl, .str z, .ref CK, .type "str", .ref CK, false, rfl, .own CK, .base (.str z), O.other (.str z), _, rfl, k⟩
end
end Wp
set_option Elab.async false
set_option linter.all false
set_option maxRecDepth 100000
set_option maxHeartbeats 4000000
namespace Hb
open PySem PySem.Spec PyProof.Rows L2
/-! ## facts of the written part as Bools -/
variable {K : PySem.W.Frag} {C : Addr}
def oexB (K : PySem.W.Frag) (C : Addr) : Bool := (match K.lookup C with
  | some ⟨.type t, _, .cls cd, sl⟩ => decide (t = "type") && (decide (sl.size = 6) && (decide (sl.toList[4]? = some (some (.builtin "ValueError.__new__"))) && (cd.hasDict && (!cd.hasDel && (match cd.mro with
    | .ref c :: bm => decide (c = C) && PySem.HandSPX.refsVE bm
    | _ => false)))))
  | _ => false) && (He.eqO (PySem.W.findIn K (.ref C) "__setattr__") (some (some (.builtin "object.__setattr__"))) && (decide (PySem.W.subIn K (.ref C) (.type "BaseException") = some true) && (decide (PySem.W.typeIn K (.ref C) = some (.type "type")) && PySem.W.keepIn K (.ref C))))
theorem arr6 {α : Type} {a : Array α} (h : a.size = 6) : ∃ x0 x1 x2 x3 x4 x5, a = #[x0, x1, x2, x3, x4, x5] := by
  obtain ⟨l⟩ := a
  match l, h with
  | [x0, x1, x2, x3, x4, x5], _ => exact ⟨x0, x1, x2, x3, x4, x5, rfl⟩
theorem oexB_ok (h : oexB K C = true) : OexC K C := by
  obtain ⟨h1, h⟩ := He.ba h
  obtain ⟨h2, h⟩ := He.ba h
  obtain ⟨h3, h⟩ := He.ba h
  obtain ⟨h4, h5⟩ := He.ba h
  refine ⟨?_, He.eqO_ok h2, of_decide_eq_true h3, of_decide_eq_true h4, h5⟩
  cases q : K.lookup C with
  | none =>
    rw [q] at h1
    cases h1
  | some o =>
    obtain ⟨oc, od, dt, sl⟩ := o
    rw [q] at h1
    cases oc with
    | type t =>
      cases dt with
      | cls cd =>
        obtain ⟨a1, z0⟩ := He.ba (show (decide (t = "type") && (decide (sl.size = 6) && (decide (sl.toList[4]? = some (some (.builtin "ValueError.__new__"))) && (cd.hasDict && (!cd.hasDel && (match cd.mro with
          | .ref c :: bm => decide (c = C) && PySem.HandSPX.refsVE bm
          | _ => false)))))) = true from h1)
        obtain ⟨a2, z2⟩ := He.ba z0
        obtain ⟨a3, z3⟩ := He.ba z2
        obtain ⟨a4, z4⟩ := He.ba z3
        obtain ⟨a5, z1⟩ := He.ba z4
        clear h1 z0 z2 z3 z4
        have a1 := of_decide_eq_true a1
        subst a1
        obtain ⟨x0, x1, x2, x3, x4, x5, rfl⟩ := arr6 (of_decide_eq_true a2)
        have a3 := of_decide_eq_true a3
        have a3 : x4 = some (.builtin "ValueError.__new__") := by simpa using a3
        subst a3
        obtain ⟨n1, n2, n3, n4, n5, n6, n7, n8, n9, n10, n11⟩ := cd
        simp only at a4 a5 z1
        have a5 : n11 = false := by simpa using a5
        subst a4 a5
        cases n3 with
        | nil => cases z1
        | cons m bm =>
          cases m with
          | ref c =>
            obtain ⟨b1, b2⟩ := He.ba z1
            have b3 : c = C := of_decide_eq_true b1
            exact ⟨n1, n5, n4, n2, bm, n7, n8, n9, n10, od, x0, x1, x2, x3, x5, by rw [b3], b2⟩
          | _ => cases z1
      | _ => cases h1
    | _ => cases h1
def excB (K : PySem.W.Frag) (C : Addr) : Bool := He.eqO (PySem.W.findIn K (.ref C) "__getattribute__") (some (some (.builtin "BaseException.__getattribute__"))) && (He.eqO (PySem.W.findIn K (.ref C) "__getattr__") (some none) &&
  (decide (PySem.W.subIn K (.ref C) (.type "BaseException") = some true) && (PySem.W.hasDictIn K C && (He.eqO (PySem.W.findIn K (.ref C) "__class__") (some (some (.builtin "object.__class__"))) &&
  (He.eqO (PySem.W.specialIn K (.builtin "object.__class__") "__get__") (some (some (.builtin "getset_descriptor.__get__"))) && (decide (PySem.W.takesIn K (.builtin "object.__class__") = some true) && decide (PySem.W.mroIn K C (.type "object") = some true)))))))
theorem excB_ok (h : excB K C = true) : ExcC K C := by
  obtain ⟨h1, h⟩ := He.ba h
  obtain ⟨h2, h⟩ := He.ba h
  obtain ⟨h3, h⟩ := He.ba h
  obtain ⟨h4, h⟩ := He.ba h
  obtain ⟨h5, h⟩ := He.ba h
  obtain ⟨h6, h⟩ := He.ba h
  obtain ⟨h7, h8⟩ := He.ba h
  exact ⟨He.eqO_ok h1, He.eqO_ok h2, of_decide_eq_true h3, h4, He.eqO_ok h5, He.eqO_ok h6, of_decide_eq_true h7, of_decide_eq_true h8⟩
/-- the table of modules stands in the written part -/
def sysB (K : PySem.W.Frag) : Bool := match K.lookup sysModules with
  | some ⟨_, _, .dict _ _, _⟩ => true
  | _ => false
theorem sysB_ok (h : sysB K = true) : ∃ o es ep, K.lookup sysModules = some o ∧ o.data = .dict es ep := by
  unfold sysB at h
  cases q : K.lookup sysModules with
  | none => rw [q] at h; cases h
  | some o =>
    obtain ⟨oc, od, dt, sl⟩ := o
    rw [q] at h
    cases dt with
    | dict es ep => exact ⟨_, es, ep, rfl, rfl⟩
    | _ => cases h
/-- an own class beside data -/
def ownB (K : PySem.W.Frag) (C : Addr) : Bool := He.eqO (PySem.W.findIn K (.ref C) "__class__") (some (some (.builtin "object.__class__"))) && (He.eqO (PySem.W.specialIn K (.builtin "object.__class__") "__get__") (some (some (.builtin "getset_descriptor.__get__"))) &&
  (decide (PySem.W.takesIn K (.builtin "object.__class__") = some true) && (decide (PySem.W.mroIn K C (.type "object") = some true) && (decide (PySem.W.kitOne K (.ref C) (.ref C) = some true) &&
  (["NoneType", "bool", "int", "str", "list", "tuple", "dict"].all fun t => decide (PySem.W.kitOne K (.type t) (.ref C) = some false))))))
theorem ownB_ok (cl : Cls K C) (h : ownB K C = true) : Wp.OwnC K C := by
  obtain ⟨h1, h⟩ := He.ba h
  obtain ⟨h2, h⟩ := He.ba h
  obtain ⟨h3, h⟩ := He.ba h
  obtain ⟨h4, h⟩ := He.ba h
  obtain ⟨h5, h6⟩ := He.ba h
  refine ⟨cl, He.eqO_ok h1, He.eqO_ok h2, of_decide_eq_true h3, of_decide_eq_true h4, of_decide_eq_true h5, fun d => ?_⟩
  have q := List.all_eq_true.mp h6
  cases d <;> exact of_decide_eq_true (q _ (by simp [Wp.tyN]))
def eqB (K : PySem.W.Frag) (C : Addr) : Bool := decide (PySem.W.mroIn K C (.type "object") = some true) && (He.eqO (PySem.W.findIn K (.ref C) "__ne__") (some (some (.builtin "object.__ne__"))) && (He.eqO (PySem.W.findIn K (.ref C) "__eq__") (some (some (.ref (He.ma K C "__eq__")))) && PySem.W.isFn K (.ref (He.ma K C "__eq__"))))
theorem eqB_ok (h : eqB K C = true) : Wp.OwnEqual K C (He.ma K C "__eq__") := by
  obtain ⟨h1, h⟩ := He.ba h
  obtain ⟨h2, h⟩ := He.ba h
  obtain ⟨h3, h4⟩ := He.ba h
  exact ⟨of_decide_eq_true h1, He.eqO_ok h2, He.eqO_ok h3, h4⟩
/-- a tuple of the written part -/
def tupB (K : PySem.W.Frag) (t : Addr) (vs : List V) : Bool := match K.lookup t with
  | some ⟨.type c, _, .seq its _, _⟩ => decide (c = "tuple") && (He.relAll vs its.toList && decide (its.size ≤ 1000))
  | _ => false
theorem tupB_ok {t : Addr} {vs : List V} (h : tupB K t vs = true) (H : Hp) : SqT K H t vs := by
  unfold tupB at h
  cases q : K.lookup t with
  | none =>
    rw [q] at h
    cases h
  | some o =>
    obtain ⟨oc, od, dt, sl⟩ := o
    rw [q] at h
    cases oc with
    | type c =>
      cases dt with
      | seq its n =>
        obtain ⟨h1, h⟩ := He.ba (show (decide (c = "tuple") && (He.relAll vs its.toList && decide (its.size ≤ 1000))) = true from h)
        obtain ⟨h2, h3⟩ := He.ba h
        have h1 := of_decide_eq_true h1
        have h3 := of_decide_eq_true h3
        subst h1
        exact .inr ⟨_, its, n, q, rfl, rfl, by rw [sizeLine_eq]; omega, He.relAll_ok h2⟩
      | _ => cases h
    | _ => cases h
/-- a keyword-only default of the def at f, if it is an object -/
def kwdAt (f : Str × Option Str) (x : Str) (K : PySem.W.Frag) : Addr := match K.lookup (He.fAd K f) with
  | some ⟨_, _, .func fd, _⟩ => (match fd.kwdefaults with
    | .ref D => (match PySem.W.nsIn K D x with
      | some (some (.ref a)) => a
      | _ => 0)
    | _ => 0)
  | _ => 0
/-- a constant of a class, read off the class -/
def conB (K : PySem.W.Frag) (C : Addr) (f : Str) (v : V) : Bool := PySem.W.readsIn K C (.type "type") && (He.eqO (PySem.W.specialIn K (.ref C) "__getattribute__") (some (some (.builtin "type.__getattribute__"))) && (match PySem.W.findCls K (.ref C) (.type "type") f with
  | some (.val u) => He.relB v u
  | _ => false))
theorem conB_ok {f : Str} {v : V} (h : conB K C f v = true) : ClX.CRead K C (.type "type") ∧ ∃ u, ClX.CVal K C (.type "type") f v u := by
  obtain ⟨h1, h⟩ := He.ba h
  obtain ⟨h2, h3⟩ := He.ba h
  refine ⟨⟨h1, He.eqO_ok h2⟩, ?_⟩
  split at h3
  · rename_i u e
    exact ⟨u, e, He.relB_ok h3⟩
  · cases h3
end Hb
namespace Wp
open PySem PySem.Spec PyProof.Rows L2
theorem FunD_kbN {K : PySem.W.Frag} {x qual : Str} {params : Arguments} {body : List Stmt} {scope : Scope} {kws : List (Str × V)} {f : Addr} {fd : FuncData} {ps : List Str} (F : FunD K x qual params body scope [] kws f fd) (n : Nat) (ks : List Str)
    (h : ∀ (kV doc pm : Value) (an : Option Addr) (cdv ct : Value) (us ws : List Value), us.length = n → ws.length = ks.length → bindArgs (PySem.W.fnOf x qual params body scope .none kV doc pm an cdv ct) ⟨us, ks.zip ws⟩ = pure (ps.zip (us ++ ws))) :
    KBn K fd ps n ks (fun us ws => us ++ ws) (fun vs zs => vs ++ zs) := by
  obtain ⟨oc, od, dV, kV, doc, pm, an, cdv, ct, osl, rfl, lk, hcd, hD, hK⟩ := F.ex
  rcases hD with ⟨_, rfl⟩ | ⟨e, _⟩
  · exact ⟨fun s us ws _ l1 l2 => .of_eq (h kV doc pm an cdv ct us ws l1 l2), fun a b => a.append b⟩
  · exact absurd rfl e
end Wp
set_option Elab.async false
set_option linter.all false
set_option maxRecDepth 100000
set_option maxHeartbeats 0
namespace Wh
open PySem PySem.Spec PyProof.Rows L2
open Wp hiding Same.refl Same.trans same_new boot_all run_own
/-! ## the head: facts by names -/

def dd (x : Str) (i : Nat) : He.DefD := ⟨(x, none), x, x, defArgs (top i), defBody (top i), defScope (top i), [], []⟩
def dm (C x q : Str) (i j : Nat) (kw : List (Str × He.Dv)) : He.DefD := ⟨(C, some x), x, q, defArgs (meth i j), defBody (meth i j), defScope (meth i j), [], kw⟩
def fn : List He.DefD := [dd "is_integer" 12, dd "is_word" 13, dd "is_field_name" 14, dd "is_kind_name" 15, dd "is_default" 16, dd "are_different" 17, dd "_fits_mode" 22, dd "_is_was" 23, dm "Field" "__init__" "Field.__init__" 24 0 [("target", .non), ("default", .int 0), ("was", .adr (Hb.kwdAt ("Field", some "__init__") "was"))], dd "_are_fields" 25, dd "_can_be" 26, dm "Kind" "__init__" "Kind.__init__" 27 0 [("base", .non), ("frozen", .bl false), ("heirs", .bl false), ("key", .non), ("registered", .bl false)], dm "Field" "__eq__" "Field.__eq__" 24 1 [], dm "Kind" "__eq__" "Kind.__eq__" 27 1 [], dm "BadField" "__init__" "BadField.__init__" 2 0 [], dm "BadKind" "__init__" "BadKind.__init__" 3 0 [], dm "BadHouse" "__init__" "BadHouse.__init__" 4 0 [], dm "UnknownKind" "__init__" "UnknownKind.__init__" 5 0 [], dm "UnknownField" "__init__" "UnknownField.__init__" 6 0 [], dd "_all_fields" 30, dd "_check_kinds" 28, dd "_holds_alone" 29, dd "_far_from" 31, dm "House" "_lets" "House._lets" 32 7 [], dm "House" "_leads_from" "House._leads_from" 32 6 [], dm "House" "_check_frozen" "House._check_frozen" 32 8 [], dm "House" "__init__" "House.__init__" 32 2 [], dm "House" "__eq__" "House.__eq__" 32 3 [], dm "House" "__len__" "House.__len__" 32 4 [], dm "House" "__contains__" "House.__contains__" 32 5 [], dm "House" "_check" "House._check" 32 9 [], dm "House" "kind_named" "House.kind_named" 32 10 [], dm "House" "fields_of" "House.fields_of" 32 11 [], dm "House" "field_of" "House.field_of" 32 12 [], dm "House" "marks_of" "House.marks_of" 32 13 [], dm "House" "slots_of" "House.slots_of" 32 14 [], dm "House" "lets_heirs" "House.lets_heirs" 32 15 [], dm "House" "is_frozen" "House.is_frozen" 32 16 [], dm "House" "is_registered" "House.is_registered" 32 17 [], dm "House" "is_leaf" "House.is_leaf" 32 18 [], dm "House" "is_movable" "House.is_movable" 32 19 [], dm "House" "key_of" "House.key_of" 32 20 [], dm "House" "heirs_of" "House.heirs_of" 32 21 [], dm "House" "admitted" "House.admitted" 32 22 [], dm "House" "admits" "House.admits" 32 23 [], dm "House" "leads" "House.leads" 32 24 [], dm "House" "leads_far" "House.leads_far" 32 25 [], dm "House" "with_kinds" "House.with_kinds" 32 26 [("root", .non)], dd "_law_pen" 34, dd "_law_take" 35, dd "_law_one_of" 36, dd "_law_word" 38, dd "_law_words" 39, dd "_law_kind_names" 40, dd "_law_row" 41, dd "_law_all_fields" 42, dd "_law_admitted" 43, dd "_law_leads" 44, dd "_law_leads_far" 45, dd "_law_was" 46, dd "_law_field" 47, dd "_law_flavour" 48, dd "_law_new_row" 49, dd "_law_house_rows" 50, dd "_law_root" 51, dd "_law_made_field" 52, dd "_law_made_kind" 53, dd "_law_made_house" 54, dd "_law_truth" 56, dd "_law_is_integer" 37, dd "_law_field_shows" 57, dd "_law_admits" 60, dd "_law_lists" 58, dd "_law_flags" 59, dd "_law_call" 61, dd "_law_odd_kind" 55, dd "_law_refused" 62, dd "_law_odd_field" 63, dd "_law_other_houses" 64, dd "law" 65]
def fa : List He.Fa := [.glo "is_integer", .glo "is_word", .glo "is_field_name", .glo "is_kind_name", .glo "is_default", .glo "are_different", .glo "_fits_mode", .glo "_is_was", .glo "_are_fields", .glo "_can_be", .glo "_all_fields", .glo "_check_kinds", .glo "_holds_alone", .glo "_far_from", .glo "_law_pen", .glo "_law_take", .glo "_law_one_of", .glo "_law_word", .glo "_law_words", .glo "_law_kind_names", .glo "_law_row", .glo "_law_all_fields", .glo "_law_admitted", .glo "_law_leads", .glo "_law_leads_far", .glo "_law_was", .glo "_law_field", .glo "_law_flavour", .glo "_law_new_row", .glo "_law_house_rows", .glo "_law_root", .glo "_law_made_field", .glo "_law_made_kind", .glo "_law_made_house", .glo "_law_truth", .glo "_law_is_integer", .glo "_law_field_shows", .glo "_law_admits", .glo "_law_lists", .glo "_law_flags", .glo "_law_call", .glo "_law_odd_kind", .glo "_law_refused", .glo "_law_odd_field", .glo "_law_other_houses", .glo "law", .glo "Field", .glo "Kind", .glo "House", .glo "BadField", .glo "BadKind", .glo "BadHouse", .glo "UnknownKind", .glo "UnknownField", .free "isinstance", .free "int", .free "bool", .free "str", .free "len", .free "list", .free "tuple", .free "all", .free "set", .free "repr", .free "range", .free "any", .exm "BadHouse" "BadHouse" true, .exm "UnknownKind" "UnknownKind" true, .exm "UnknownField" "UnknownField" true, .meth "House" "__len__", .meth "House" "__contains__", .meth "House" "_check", .meth "House" "kind_named", .meth "House" "fields_of", .meth "House" "field_of", .meth "House" "marks_of", .meth "House" "slots_of", .meth "House" "lets_heirs", .meth "House" "is_frozen", .meth "House" "is_registered", .meth "House" "is_leaf", .meth "House" "is_movable", .meth "House" "key_of", .meth "House" "heirs_of", .meth "House" "admitted", .meth "House" "admits", .meth "House" "leads", .meth "House" "leads_far", .meth "House" "with_kinds", .str "SMALL" smallS, .str "LARGE" largeS, .int "NAME_LETTERS" 8, .int "DEFAULT_BOUND" 1000000000000, .str "ANY" "any", .int "OLD_NAMES" 2, .cls "Field", .cls "Kind", .cls "House", .noat "Field" "name", .noat "Field" "mode", .noat "Field" "target", .noat "Field" "default", .noat "Field" "was", .noat "Kind" "name", .noat "Kind" "fields", .noat "Kind" "base", .noat "Kind" "frozen", .noat "Kind" "heirs", .noat "Kind" "key", .noat "Kind" "registered", .noat "House" "root", .noat "House" "names", .noat "House" "_kinds", .noat "House" "_by_name", .noat "House" "_fields", .noat "House" "_leads", .noat "House" "_far", .mkr "Field", .mkr "Kind", .mkr "House", .noat "BadField" "name", .noat "BadKind" "name", .noat "BadHouse" "name", .noat "UnknownKind" "name", .noat "UnknownField" "name", .noat "UnknownField" "kind", .meth "BadField" "__init__", .meth "BadKind" "__init__", .meth "BadHouse" "__init__", .meth "UnknownKind" "__init__", .meth "UnknownField" "__init__", .meth "House" "_lets", .meth "House" "_leads_from", .meth "House" "_check_frozen", .glo "SLOT_MODES"]
def exs (K : PySem.W.Frag) : List Bool := [Hb.tupB K (He.ga K "SLOT_MODES") [.str "link", .str "list"], Hb.ownB K (He.ga K "Field"), Hb.ownB K (He.ga K "Kind"), Hb.conB K (He.ga K "House") "FIELDS" (.int 10), Hb.conB K (He.ga K "House") "KINDS" (.int 12), decide (He.ga K "Field" ≠ He.ga K "House"), decide (He.ga K "Kind" ≠ He.ga K "House"), Hb.sysB K, Hb.ownB K (He.ga K "House"), decide (PySem.W.kitOne K (.type "tuple") (.ref (He.ga K "House")) = some false), PySem.W.notFirst K (He.ga K "House") (.type "tuple"), Hb.oexB K (He.ga K "BadField"), Hb.excB K (He.ga K "BadField"), Hb.oexB K (He.ga K "BadKind"), Hb.excB K (He.ga K "BadKind"), Hb.oexB K (He.ga K "BadHouse"), Hb.excB K (He.ga K "BadHouse"), Hb.oexB K (He.ga K "UnknownKind"), Hb.excB K (He.ga K "UnknownKind"), Hb.oexB K (He.ga K "UnknownField"), Hb.excB K (He.ga K "UnknownField"), Hb.eqB K (He.ga K "Field"), PySem.W.notFirst K (He.ga K "Field") (.ref (He.ga K "Field")), Hb.eqB K (He.ga K "Kind"), PySem.W.notFirst K (He.ga K "Kind") (.ref (He.ga K "Kind")), Hb.eqB K (He.ga K "House"), PySem.W.notFirst K (He.ga K "House") (.ref (He.ga K "House"))]
abbrev AlX : Type := Bool × He.AlD
def obsX (K : PySem.W.Frag) : AlX := ((exs K).all fun b => b, He.obsD fa fn K)
def valX : AlX := (true, He.valD fn)
/-- where the facts stand -/
def spots : List Addr := [1, 3, 24, 44, 63, 82, 101, 120, 129, 134, 141, 146, 153, 160, 161, 168, 173, 199, 208, 213, 238, 249, 254, 261, 266, 436, 447, 454, 461, 468, 475, 480, 485, 490, 497, 502, 507, 512, 517, 524, 529, 534, 539, 544, 551, 556, 561, 568, 575, 582, 587, 592, 599, 606, 613, 618, 623, 628, 23, 43, 62, 81, 100, 119, 128, 133, 140, 145, 152, 159, 167, 172, 198, 207, 212, 237, 248, 253, 260, 265, 435, 446, 453, 460, 467, 474, 479, 484, 489, 496, 501, 506, 511, 516, 523, 528, 533, 538, 543, 550, 555, 560, 567, 574, 581, 586, 591, 598, 605, 612, 617, 622, 627, 41, 60, 79, 98, 117, 189, 196, 228, 235, 278, 285, 292, 299, 304, 311, 316, 323, 330, 337, 344, 349, 354, 361, 368, 375, 382, 387, 394, 399, 404, 411, 418, 425, 433, 40, 59, 78, 97, 116, 188, 182, 195, 227, 221, 234, 277, 284, 291, 298, 303, 310, 315, 322, 329, 336, 343, 348, 353, 360, 367, 374, 381, 386, 393, 398, 403, 410, 417, 424, 432, 426, 2]
def obsXG (n : Nat) (g : Addr → Option Obj) : AlX := obsX (He.frG g spots)
def hk : PySem.W.Hook where
  α := AlX
  obs := fun s => obsXG 6 s.heap.get?
  val := fun _ => valX
  says := fun _ h => ∃ K : PySem.W.Frag, K.In h ∧ obsX K = valX
  of := fun _ _ e => ⟨_, He.frG_in, e⟩
  keeps := fun _ _ _ ⟨K, hK, c⟩ k => ⟨K, PySem.W.Frag.In.keeps hK k, c⟩
abbrev R : PySem.W.OpenRow := PySem.W.OpenLaw.row PySem.Challenge.rw_waypairs_k02_houses_asked
def ob (s : PySem.W.SharedT) : AlX := obsXG 6 (HandSHeadRun.getT s)
theorem ob_eq (s : PySem.W.SharedT) : ob s = hk.obs s.abs := by
  have e : HandSHeadRun.getT s = s.abs.heap.get? := funext (HandSHeadRun.getT_eq s)
  show obsXG 6 (HandSHeadRun.getT s) = obsXG 6 s.abs.heap.get?
  rw [e]
end Wh
namespace Wr
open PySem PySem.Spec HandSHeadRun PySem.W PySem.Calls PyProof.Rows
open Wh (R ob hk)
theorem map3 {α β γ δ : Type} {a : β} {b : γ} {c : δ} (X : Option α) (A : α → β) (B : α → γ) (C : α → δ) (h1 : X.map A = some a) (h2 : X.map B = some b) (h3 : X.map C = some c) : X.map (fun s => (A s, B s, C s)) = some (a, b, c) := by
  cases X with
  | none => cases h1
  | some s =>
    have e1 : A s = a := Option.some.inj h1
    have e2 : B s = b := Option.some.inj h2
    have e3 : C s = c := Option.some.inj h3
    subst e1 e2 e3
    rfl
def loose : List PySem.Str := ((["WayError", "BadField", "BadKind", "BadHouse", "UnknownKind", "UnknownField", "is_integer", "is_word", "is_field_name", "is_kind_name", "is_default", "are_different", "_fits_mode", "_is_was", "Field", "_are_fields", "_can_be", "Kind", "_check_kinds", "_holds_alone", "_all_fields", "_far_from", "House", "_law_pen", "_law_take"] : List PySem.Str) ++ (["_law_one_of", "_law_is_integer", "_law_word", "_law_words", "_law_kind_names", "_law_row", "_law_all_fields", "_law_admitted", "_law_leads", "_law_leads_far", "_law_was", "_law_field", "_law_flavour", "_law_new_row", "_law_house_rows", "_law_root", "_law_made_field", "_law_made_kind", "_law_made_house", "_law_odd_kind", "_law_truth", "_law_field_shows", "_law_lists", "_law_flags", "_law_admits"] : List PySem.Str) ++ (["_law_call", "_law_refused", "_law_odd_field", "_law_other_houses", "__name__", "__name__", "SMALL", "LARGE", "NAME_LETTERS", "DEFAULT_BOUND", "__name__", "SLOT_MODES", "ANY", "OLD_NAMES", "__name__"] : List PySem.Str))
theorem runA (w : PySem.World) : ∀ os : PySem.OsState, (endF (stepQ (denQ tabQ) R.prog w) 8000 R.prog w os).map (fun s => looksF R.prog (boot_heap w.params) s.abs) = some true := by
  intro os
  kernel_rfl
theorem runB (w : PySem.World) : ∀ os : PySem.OsState, (endF (stepQ (denQ tabQ) R.prog w) 8000 R.prog w os).map (fun s => seenQ (PySem.W.view R.prog [65]) loose (importedModules R.prog.main.body) (fun s => xlAt (PySem.W.view R.prog [65]) [] s && recOk R.toRowW.records s) s.abs) = some (openGood (PySem.W.view R.prog [65]) loose) := by
  intro os
  kernel_rfl
theorem runC (w : PySem.World) : ∀ os : PySem.OsState, (endF (stepQ (denQ tabQ) R.prog w) 8000 R.prog w os).map (fun s => ob s) = some (hk.val w) := by
  intro os
  kernel_rfl
theorem run (w : PySem.World) : HandSHeadRun.RunEq R (PySem.W.view R.prog [65]) hk ob 8000 loose w := fun os => map3 _ _ _ _ (runA w os) (runB w os) (runC w os)
end Wr
namespace Wh
end Wh
set_option Elab.async false
set_option linter.all false
set_option maxRecDepth 100000
set_option maxHeartbeats 4000000
/-! The eight sets, as numbers; which tell, as masks. -/
namespace W8
open PySem
abbrev Cd : Type := Fin 8
def wAsk : Str := "ask"
def wOld : Str := "old"
def wSet : Str := "set"
def wds : Cd → List Str
  | 0 => [] | 1 => [wAsk] | 2 => [wOld] | 3 => [wSet] | 4 => [wAsk, wOld] | 5 => [wAsk, wSet] | 6 => [wOld, wSet] | 7 => [wAsk, wOld, wSet]
def all3 : List Str := [wAsk, wOld, wSet]
def e8 : List Cd := [0, 1, 2, 3, 4, 5, 6, 7]
def sub (i j : Cd) : Bool := (wds i).all fun w => (wds j).contains w
def codeOf (ws : List Str) : Cd := if ws.contains wAsk then (if ws.contains wOld then (if ws.contains wSet then 7 else 4) else (if ws.contains wSet then 5 else 1)) else (if ws.contains wOld then (if ws.contains wSet then 6 else 2) else (if ws.contains wSet then 3 else 0))
def join (i j : Cd) : Cd := codeOf (wds i ++ wds j)
theorem wds_code (ws : List Str) : all3.filter (fun w => ws.contains w) = wds (codeOf ws) := by
  unfold all3 codeOf
  cases h1 : ws.contains wAsk <;> cases h2 : ws.contains wOld <;> cases h3 : ws.contains wSet <;> (simp only [List.filter_cons, List.filter_nil, h1, h2, h3, if_true, if_false, Bool.false_eq_true] <;> rfl)
theorem code_wds : ∀ m : Cd, codeOf (wds m) = m := by decide +kernel
theorem wds_inj : ∀ i j : Cd, wds i = wds j → i = j := by decide +kernel
theorem wds_join (i j : Cd) : all3.filter (fun w => (wds i).contains w || (wds j).contains w) = wds (join i j) := by
  unfold join
  rw [← wds_code]
  congr 1
  funext w
  simp [List.contains_eq_mem]
theorem wds_in : ∀ m : Cd, ∀ w ∈ wds m, w ∈ all3 := by decide +kernel
theorem wds_nodup : ∀ m : Cd, (wds m).Nodup := by decide +kernel
theorem wds_len : ∀ m : Cd, (wds m).length ≤ 3 := by decide +kernel
theorem sub_law : ∀ i j : Cd, ((wds i).filter fun w => !(wds j).contains w).isEmpty = sub i j := by decide +kernel
/-! ## masks -/
def upm (m : Cd) : Nat := e8.foldl (fun b i => if sub m i then b ||| (1 <<< i.val) else b) 0
def has (t : Nat) (m : Cd) : Bool := t.testBit m.val
def fl (t : Nat) : List Cd := e8.filter (has t)
def ql (t : Nat) : List Cd := e8.filter fun m => !has t m
def tel : List Cd → Nat
  | [] => 0
  | m :: ms => upm m ||| tel ms
def mm : List Cd → Nat
  | [] => 0
  | m :: ms => (1 <<< m.val) ||| mm ms
def upB (t : Nat) : Nat := tel (fl t)
def lst (ms : List Cd) : List Cd := ms.filter fun one => (ms.filter fun less => less != one && sub less one).isEmpty
def grs (ms : List Cd) : List Cd := ms.filter fun one => (ms.filter fun more => more != one && sub one more).isEmpty
theorem upm_has : ∀ m i : Cd, has (upm m) i = sub m i := by decide +kernel
theorem upm_lt : ∀ m : Cd, upm m < 256 := by decide +kernel
theorem or_lt {a b : Nat} (h : a < 256) (k : b < 256) : a ||| b < 256 := Nat.or_lt_two_pow (n := 8) h k
theorem tel_lt : ∀ ms : List Cd, tel ms < 256
  | [] => by decide
  | m :: ms => or_lt (upm_lt m) (tel_lt ms)
theorem mm_lt : ∀ ms : List Cd, mm ms < 256
  | [] => by decide
  | m :: ms => or_lt ((by decide : ∀ m : Cd, 1 <<< m.val < 256) m) (mm_lt ms)
theorem has_or (a b : Nat) (m : Cd) : has (a ||| b) m = (has a m || has b m) := Nat.testBit_or ..
theorem has_and (a b : Nat) (m : Cd) : has (a &&& b) m = (has a m && has b m) := Nat.testBit_and ..
theorem has_zero (m : Cd) : has 0 m = false := Nat.zero_testBit _
theorem tel_has (m : Cd) : ∀ ms : List Cd, has (tel ms) m = ms.any fun i => sub i m
  | [] => has_zero m
  | i :: ms => by
    show has (upm i ||| tel ms) m = _
    rw [has_or, upm_has, tel_has m ms]
    rfl
theorem mm_has (m : Cd) : ∀ ms : List Cd, has (mm ms) m = ms.any fun i => i == m
  | [] => has_zero m
  | i :: ms => by
    show has (1 <<< i.val ||| mm ms) m = _
    rw [has_or, mm_has m ms, (by decide +kernel : ∀ i m : Cd, has (1 <<< i.val) m = (i == m)) i m]
    rfl
theorem tel_append : ∀ a b : List Cd, tel (a ++ b) = tel a ||| tel b
  | [], b => (Nat.zero_or _).symm
  | m :: a, b => by
    show upm m ||| tel (a ++ b) = _
    rw [tel_append a b, ← Nat.or_assoc]
    rfl
theorem fl_eq_of {s t : Nat} (h : ∀ m, has s m = has t m) : fl s = fl t := by
  unfold fl
  rw [funext h]
theorem eq_of_has {s t : Nat} (hs : s < 256) (ht : t < 256) (h : ∀ m, has s m = has t m) : s = t := by
  apply Nat.eq_of_testBit_eq
  intro i
  by_cases k : i < 8
  · exact h ⟨i, k⟩
  · rw [Nat.testBit_lt_two_pow (Nat.lt_of_lt_of_le hs (Nat.pow_le_pow_right (n := 2) (by decide) (by omega) : 2 ^ 8 ≤ 2 ^ i)), Nat.testBit_lt_two_pow (Nat.lt_of_lt_of_le ht (Nat.pow_le_pow_right (n := 2) (by decide) (by omega) : 2 ^ 8 ≤ 2 ^ i))]
theorem upB_mm (ms : List Cd) : upB (mm ms) = tel ms := by
  refine eq_of_has (tel_lt _) (tel_lt _) fun m => ?_
  unfold upB
  rw [tel_has, tel_has]
  rw [Bool.eq_iff_iff, List.any_eq_true, List.any_eq_true]
  constructor
  · rintro ⟨i, hi, s⟩
    have h := (List.mem_filter.mp hi).2
    rw [mm_has, List.any_eq_true] at h
    obtain ⟨j, hj, e⟩ := h
    exact ⟨j, hj, by rw [beq_iff_eq.mp e]; exact s⟩
  · rintro ⟨i, hi, s⟩
    refine ⟨i, List.mem_filter.mpr ⟨(by decide : ∀ i : Cd, i ∈ e8) i, ?_⟩, s⟩
    rw [mm_has, List.any_eq_true]
    exact ⟨i, hi, beq_iff_eq.mpr rfl⟩
/-- what tells together with all that is larger -/
def Uc (t : Nat) : Prop := t < 256 ∧ upB t = t
instance (t : Nat) : Decidable (Uc t) := inferInstanceAs (Decidable (_ ∧ _))
theorem up_up : ∀ t, t < 256 → upB (upB t) = upB t := by decide +kernel
theorem uc_tel (ms : List Cd) : Uc (tel ms) := by
  refine ⟨tel_lt ms, ?_⟩
  rw [← upB_mm]
  exact up_up _ (mm_lt ms)
theorem lst_up : ∀ t, t < 256 → lst (fl t) = lst (fl (upB t)) := by decide +kernel
theorem lst_mm (ms : List Cd) : lst (fl (mm ms)) = lst (fl (tel ms)) := by
  rw [lst_up _ (mm_lt ms), upB_mm]
theorem tel_lst0 : ∀ t, t < 256 → upB t = t → tel (lst (fl t)) = t := by decide +kernel
theorem tel_lst {t : Nat} (h : Uc t) : tel (lst (fl t)) = t := tel_lst0 t h.1 h.2
theorem uc_or {s t : Nat} (h : Uc s) (k : Uc t) : Uc (s ||| t) := by
  rw [← tel_lst h, ← tel_lst k, ← tel_append]
  exact uc_tel _
theorem tel_join (i : Cd) : ∀ ns : List Cd, tel (ns.map (join i)) = upm i &&& tel ns
  | [] => (Nat.and_zero _).symm
  | n :: ns => by
    show upm (join i n) ||| tel (ns.map (join i)) = upm i &&& (upm n ||| tel ns)
    rw [tel_join i ns, Nat.and_or_distrib_left, (by decide +kernel : ∀ i n : Cd, upm (join i n) = upm i &&& upm n) i n]
theorem tel_joins (ns : List Cd) : ∀ ms : List Cd, tel (ms.flatMap fun i => ns.map (join i)) = tel ms &&& tel ns
  | [] => (Nat.zero_and _).symm
  | m :: ms => by
    rw [List.flatMap_cons, tel_append, tel_join, tel_joins ns ms]
    show _ = (upm m ||| tel ms) &&& tel ns
    rw [Nat.and_or_distrib_right]
theorem uc_and {s t : Nat} (h : Uc s) (k : Uc t) : Uc (s &&& t) := by
  rw [← tel_lst h, ← tel_lst k, ← tel_joins]
  exact uc_tel _
theorem uc_zero : Uc 0 := by decide +kernel
/-! ## what the program says is what the law says -/
theorem tells_has {t : Nat} (h : Uc t) (m : Cd) : ((lst (fl t)).any fun i => sub i m) = has t m := by
  rw [← tel_has, tel_lst h]
theorem any_lst (ms : List Cd) : (ms.filter fun one => !((ms.map fun other => sub other one && (other != one)).any id)) = lst ms := by
  unfold lst
  congr 1
  funext one
  rw [Bool.eq_iff_iff]
  simp [List.filter_eq_nil_iff, List.any_map]
  constructor
  · intro h a ha hn
    exact Bool.eq_false_iff.mpr fun hs => hn (h a ha hs)
  · intro h a ha hs
    by_cases e : a = one
    · exact e
    · exact absurd hs (by simpa using h a ha e)
theorem any_grs (ms : List Cd) : (ms.filter fun one => !((ms.map fun other => sub one other && (one != other)).any id)) = grs ms := by
  unfold grs
  congr 1
  funext one
  rw [Bool.eq_iff_iff]
  simp [List.filter_eq_nil_iff, List.any_map]
  constructor
  · intro h a ha hn
    exact Bool.eq_false_iff.mpr fun hs => hn (h a ha hs).symm
  · intro h a ha hs
    by_cases e : a = one
    · exact e.symm
    · exact absurd hs (by simpa using h a ha e)
theorem quiet0 : ∀ t, t < 256 → upB t = t → (lst (fl t)).isEmpty = (fl t).isEmpty := by decide +kernel
theorem lst_inj0 : ∀ s, s < 256 → upB s = s → ∀ t, t < 256 → upB t = t → decide (lst (fl s) = lst (fl t)) = decide (fl s = fl t) := by decide +kernel
theorem within0 : ∀ s, s < 256 → upB s = s → ∀ t, t < 256 → upB t = t → (lst (fl s)).all (has t) = ((fl s).filter fun m => !has t m).isEmpty := by decide +kernel
theorem mem_fl {t : Nat} {m : Cd} : (fl t).contains m = has t m := by
  rw [Bool.eq_iff_iff]
  simp [fl, List.mem_filter, (by decide : ∀ i : Cd, i ∈ e8) m]
theorem fl_or (s t : Nat) : (e8.filter fun m => (fl s).contains m || (fl t).contains m) = fl (s ||| t) := by
  unfold fl
  congr 1
  funext m
  have := mem_fl (t := s) (m := m)
  have q := mem_fl (t := t) (m := m)
  unfold fl at this q
  rw [this, q, has_or]
theorem fl_and (s t : Nat) : ((fl s).filter fun m => (fl t).contains m) = fl (s &&& t) := by
  unfold fl
  rw [List.filter_filter]
  congr 1
  funext m
  have q := mem_fl (t := t) (m := m)
  unfold fl at q
  rw [q, has_and, Bool.and_comm]
theorem fl_tel (ms : List Cd) : (e8.filter fun one => !(ms.filter fun less => sub less one).isEmpty) = fl (tel ms) := by
  unfold fl
  congr 1
  funext m
  rw [tel_has, Bool.eq_iff_iff]
  simp [List.filter_eq_nil_iff]
theorem ql_eq (t : Nat) : (e8.filter fun m => !(fl t).contains m) = ql t := by
  unfold ql
  congr 1
  funext m
  rw [mem_fl]
theorem fl_len (t : Nat) : (fl t).length ≤ 8 := List.length_filter_le ..
theorem ql_len (t : Nat) : (ql t).length ≤ 8 := List.length_filter_le ..
theorem lst_len (ms : List Cd) : (lst ms).length ≤ ms.length := List.length_filter_le ..
theorem grs_len (ms : List Cd) : (grs ms).length ≤ ms.length := List.length_filter_le ..
end W8
set_option Elab.async false
set_option linter.all false
set_option maxRecDepth 100000
set_option maxHeartbeats 4000000
/-! What stands in the heap, told by codes; comprehensions over it. -/
namespace W8
open PySem PySem.Spec PyProof.Rows L2
theorem same_new {H : Hp} {D : Addr} {o : HO} (h : H D = none) : Same H (upd H D o) := fun b u e => by
  rw [upd_ne (ne_of_none e h)]
  exact e
end W8
namespace L2
open PySem PySem.Spec PyProof.Rows
/-- a new thing filled anew -/
theorem Same.over {H H1 : Hp} {D : Addr} {o : HO} (a : Same H H1) (h : H D = Option.none) : Same H (upd H1 D o) := fun b u e => by
  rw [upd_ne (ne_of_none e h)]
  exact a _ _ e
theorem Same.sqT {K : PySem.W.Frag} {H H' : Hp} {q : Addr} {xs : List V} (k : Same H H') (h : SqT K H q xs) : SqT K H' q xs := by
  rcases h with (h | ⟨o, h⟩) | h
  · exact .inl (.inl (k _ _ h))
  · exact .inl (.inr ⟨o, k _ _ h⟩)
  · exact .inr h
end L2
namespace W8
open PySem PySem.Spec PyProof.Rows L2
abbrev Rp (α : Type) := Hp → V → α → Prop
/-- all but lists is as it was -/
def Kp (H H' : Hp) : Prop := ∀ b o, (∀ xs, o ≠ .lst xs) → H b = some o → H' b = some o
theorem Kp.of {H H' : Hp} (s : Same H H') : Kp H H' := fun b o _ e => s b o e
theorem Kp.refl (H : Hp) : Kp H H := fun _ _ _ e => e
theorem Kp.trans {H H1 H2 : Hp} (a : Kp H H1) (b : Kp H1 H2) : Kp H H2 := fun c o n e => b c o n (a c o n e)
theorem Kp.lst {H : Hp} {D : Addr} {ys zs : List V} (h : H D = some (.lst ys)) : Kp H (upd H D (.lst zs)) := fun b o n e => by
  rw [upd_ne fun z => by
    rw [z, h] at e
    exact n _ (Option.some.inj e).symm]
  exact e
def Mono {α : Type} (R : Rp α) : Prop := ∀ H H' v c, Kp H H' → R H v c → R H' v c
/-- each value stands for its code -/
def Ev {α : Type} (R : Rp α) (H : Hp) (xs : List V) (cs : List α) : Prop := xs.length = cs.length ∧ ∀ (i : Nat) x c, xs[i]? = some x → cs[i]? = some c → R H x c
section
variable {α β : Type} {R : Rp α} {R2 : Rp β} {H H' : Hp} {xs ys : List V} {cs ds : List α} {x : V} {c : α}
theorem Ev.nil : Ev R H [] [] := ⟨rfl, fun i x c h => by simp at h⟩
theorem Ev.kp (m : Mono R) (e : Ev R H xs cs) (s : Kp H H') : Ev R H' xs cs := ⟨e.1, fun i x c h k => m _ _ _ _ s (e.2 i x c h k)⟩
theorem Ev.same (m : Mono R) (e : Ev R H xs cs) (s : Same H H') : Ev R H' xs cs := e.kp m (.of s)
theorem Ev.cons (h : R H x c) (e : Ev R H xs cs) : Ev R H (x :: xs) (c :: cs) := by
  refine ⟨by simp [e.1], fun i y d h1 h2 => ?_⟩
  cases i with
  | zero =>
    simp at h1 h2
    subst h1 h2
    exact h
  | succ i => exact e.2 i y d (by simpa using h1) (by simpa using h2)
theorem Ev.uncons (e : Ev R H (x :: xs) (c :: cs)) : R H x c ∧ Ev R H xs cs := by
  refine ⟨e.2 0 x c rfl rfl, by simpa using e.1, fun i y d h1 h2 => e.2 (i + 1) y d (by simpa using h1) (by simpa using h2)⟩
theorem Ev.append (e : Ev R H xs cs) (f : Ev R H ys ds) : Ev R H (xs ++ ys) (cs ++ ds) := by
  refine ⟨by simp [e.1, f.1], fun i y d h1 h2 => ?_⟩
  by_cases k : i < xs.length
  · rw [List.getElem?_append_left k] at h1
    rw [List.getElem?_append_left (by rw [← e.1]; exact k)] at h2
    exact e.2 i y d h1 h2
  · rw [List.getElem?_append_right (by omega)] at h1
    rw [List.getElem?_append_right (by have := e.1; omega), ← e.1] at h2
    exact f.2 _ y d h1 h2
theorem Ev.at (e : Ev R H xs cs) {i : Nat} (h : xs[i]? = some x) : ∃ c, cs[i]? = some c ∧ R H x c := by
  have k : i < cs.length := by
    rw [← e.1]
    exact (List.getElem?_eq_some_iff.mp h).1
  exact ⟨cs[i], List.getElem?_eq_getElem k, e.2 i x _ h (List.getElem?_eq_getElem k)⟩
theorem Ev.imp {f : α → β} (k : ∀ x c, R H x c → R2 H x (f c)) (e : Ev R H xs cs) : Ev R2 H xs (cs.map f) := by
  refine ⟨by simp [e.1], fun i y d h1 h2 => ?_⟩
  obtain ⟨c, hc, r⟩ := e.at h1
  rw [List.getElem?_map, hc] at h2
  cases h2
  exact k _ _ r
theorem Ev.drop (e : Ev R H xs cs) (n : Nat) : Ev R H (xs.drop n) (cs.drop n) := by
  refine ⟨by simp [e.1], fun i y d h1 h2 => ?_⟩
  rw [List.getElem?_drop] at h1 h2
  exact e.2 _ _ _ h1 h2
end
theorem take_snoc {α : Type} {cs : List α} {j : Nat} {c : α} (h : cs[j]? = some c) : cs.take (j + 1) = cs.take j ++ [c] := by
  rw [List.take_add_one, h]
  rfl
/-- [e for x in xs if t] over what stands for cs: what p says of the code is kept, as f has it -/
theorem lc_sieve {α β : Type} {R : Rp α} {R2 : Rp β} (mR : Mono R) (mR2 : Mono R2) (p : α → Bool) (f : α → β) {J : It} {G : Hp → Prop} {xs : List V} {cs : List α} {tt : TT} {te : TE} {i : Nat} {σ : L2.St} {H : Hp} {D : Addr} {Q : Hp → Prop}
    (w : Walk J xs.length G (YAt xs)) (few : cs.length ≤ 1000) (hG : ∀ H', Same H H' → G H') (new : H D = none) (ev : Ev R H xs cs)
    (test : ∀ (x : V) (c : α) (H1 : Hp) (Rq : Bool → Hp → Prop), c ∈ cs → Same H H1 → R H1 x c → (∀ H2, Same H1 H2 → Rq (p c) H2) → tt ((σ.set i none).set i (some x)) H1 Rq)
    (elt : ∀ (x : V) (c : α) (H1 : Hp) (Rq : VK), c ∈ cs → p c = true → Same H H1 → R H1 x c → (∀ y H2, Same H1 H2 → R2 H2 y (f c) → Rq y H2) → te ((σ.set i none).set i (some x)) H1 Rq)
    (k : ∀ H' ys, Same H H' → H' D = some (.lst ys) → Ev R2 H' ys ((cs.filter p).map f) → Q H') :
    ∃ W : Nat → Nat → Hp → Prop, (∃ m, W 0 m (upd H D (.lst []))) ∧ ∀ j m H, W j m H →
      (J.stop j H ∧ Q H) ∨ (J.go j H ∧ ∃ Nx : Hp → Prop, (∀ H', Nx H' → ∃ m', m' < m ∧ W (j + 1) m' H') ∧ ∀ x H', J.yld j H x H' → gName i x (wipe σ [i]) H' fun σ2 H2 => wipe σ2 [i] = wipe σ [i] ∧ tt σ2 H2 fun b H3 =>
        if b = true then te σ2 H3 fun y H4 => ∃ acc, H4 D = some (.lst acc) ∧ acc.length < sizeLine ∧ Nx (upd H4 D (.lst (acc ++ [y]))) else Nx H3) := by
  refine lc_it w (fun j H' => Same H H' ∧ ∃ ys, H' D = some (.lst ys) ∧ Ev R2 H' ys (((cs.take j).filter p).map f)) ⟨same_new new, [], upd_same, Ev.nil⟩ (fun j H' _ q => hG H' q.1) ?_ fun H' q => ?_
  · rintro j x H1 H2 hj ⟨sm, ys, hD, ey⟩ ⟨rfl, hx⟩
    obtain ⟨c, hc, r⟩ := ev.at hx
    have mc : c ∈ cs := List.mem_of_getElem? hc
    have rc := mR _ _ _ _ (.of sm) r
    refine ⟨by simp [wipe, List.set_set], test x c H2 _ mc sm rc fun H3 s3 => ?_⟩
    cases hp : p c with
    | false =>
      rw [if_neg Bool.false_ne_true]
      refine ⟨sm.trans s3, ys, s3 _ _ hD, ?_⟩
      rw [take_snoc hc, List.filter_append, List.filter_cons, if_neg (by rw [hp]; exact Bool.false_ne_true), List.filter_nil, List.append_nil]
      exact ey.same mR2 s3
    | true =>
      rw [if_pos rfl]
      refine elt x c H3 _ mc hp (sm.trans s3) (mR _ _ _ _ (.of s3) rc) fun y H4 s4 r4 => ?_
      have s5 := s3.trans s4
      refine ⟨ys, s5 _ _ hD, ?_, (sm.trans s5).over new, ys ++ [y], upd_same, ?_⟩
      · rw [ey.1, List.length_map, sizeLine_eq]
        have := List.length_filter_le p (cs.take j)
        have := List.length_take_le j cs
        have : (cs.take j).length ≤ cs.length := by simp; omega
        omega
      · rw [take_snoc hc, List.filter_append, List.filter_cons, if_pos hp, List.filter_nil, List.map_append]
        have z : Ev R2 H4 (ys ++ [y]) (((cs.take j).filter p).map f ++ [c].map f) := (ey.same mR2 s5).append (Ev.cons r4 Ev.nil)
        exact z.kp mR2 (.lst (s5 _ _ hD))
  · obtain ⟨sm, ys, hD, ey⟩ := q
    have e : cs.take xs.length = cs := by rw [ev.1]; exact List.take_length
    rw [e] at ey
    exact k H' ys sm hD ey
/-! ## lists and tuples of what stands for codes -/
/-- a list (its own object, tracked) -/
def Ls {α : Type} (R : Rp α) (H : Hp) (l : Addr) (cs : List α) : Prop := ∃ xs, H l = some (.lst xs) ∧ Ev R H xs cs
def Tu {α : Type} (R : Rp α) (H : Hp) (l : Addr) (cs : List α) : Prop := ∃ xs, H l = some (.tup xs) ∧ Ev R H xs cs
theorem Ls.same {α : Type} {R : Rp α} {H H' : Hp} {l : Addr} {cs : List α} (m : Mono R) (h : Ls R H l cs) (s : Same H H') : Ls R H' l cs :=
  let ⟨xs, e, v⟩ := h
  ⟨xs, s _ _ e, v.same m s⟩
theorem Tu.kp {α : Type} {R : Rp α} {H H' : Hp} {l : Addr} {cs : List α} (m : Mono R) (h : Tu R H l cs) (s : Kp H H') : Tu R H' l cs :=
  let ⟨xs, e, v⟩ := h
  ⟨xs, s _ _ (fun _ z => by cases z) e, v.kp m s⟩
theorem Tu.same {α : Type} {R : Rp α} {H H' : Hp} {l : Addr} {cs : List α} (m : Mono R) (h : Tu R H l cs) (s : Same H H') : Tu R H' l cs := h.kp m (.of s)
/-- words -/
def rW : Rp Str := fun _ v w => v = .str w
def rB : Rp Bool := fun _ v b => v = .bl b
theorem mW : Mono rW := fun _ _ _ _ _ h => h
theorem mB : Mono rB := fun _ _ _ _ _ h => h
theorem ev_words {H : Hp} : ∀ ws : List Str, Ev rW H (ws.map V.str) ws
  | [] => Ev.nil
  | w :: ws => Ev.cons rfl (ev_words ws)
theorem ev_words_eq {H : Hp} {xs : List V} {ws : List Str} (e : Ev rW H xs ws) : xs = ws.map V.str := by
  apply List.ext_getElem (by simp [e.1])
  intro i h1 h2
  obtain ⟨c, hc, r⟩ := e.at (List.getElem?_eq_getElem h1)
  have k : i < ws.length := by simpa using h2
  rw [List.getElem?_eq_getElem k] at hc
  cases hc
  rw [r]
  simp
theorem ev_bools_eq {H : Hp} {xs : List V} {ws : List Bool} (e : Ev rB H xs ws) : xs = ws.map V.bl := by
  apply List.ext_getElem (by simp [e.1])
  intro i h1 h2
  obtain ⟨c, hc, r⟩ := e.at (List.getElem?_eq_getElem h1)
  have k : i < ws.length := by simpa using h2
  rw [List.getElem?_eq_getElem k] at hc
  cases hc
  rw [r]
  simp
/-- a set's words as a tuple -/
def rT : Rp Cd := fun H v m => ∃ a, v = .ref a ∧ H a = some (.tup ((wds m).map V.str))
theorem mT : Mono rT := fun _ _ _ _ s ⟨a, e, h⟩ => ⟨a, e, s _ _ (fun _ z => by cases z) h⟩
def dT (m : Cd) : PyData := .tuple ((wds m).map .str)
def dL (ms : List Cd) : PyData := .list (ms.map dT)
theorem str_beq_dec (x z : Str) : (x == z) = decide (x = z) := by
  by_cases e : x = z
  · simp [e]
  · rw [decide_eq_false e]
    exact Bool.eq_false_iff.mpr fun q => e (beq_iff_eq.mp q)
theorem eqv_str (x z : Str) : PyData.eqv (.str x) (.str z) = decide (x = z) := by
  show (x == z) = _
  exact str_beq_dec x z
theorem eqv_strs : ∀ w u : List Str, PyData.eqvAll (w.map PyData.str) (u.map PyData.str) = decide (w = u)
  | [], [] => rfl
  | [], _ :: _ => rfl
  | _ :: _, [] => rfl
  | x :: w, y :: u => by
    show (PyData.eqv (.str x) (.str y) && PyData.eqvAll _ _) = _
    rw [eqv_strs w u, eqv_str]
    by_cases e : x = y
    · by_cases z : w = u <;> simp [e, z]
    · simp [e]
theorem eqv_dT (m n : Cd) : PyData.eqv (dT m) (dT n) = decide (m = n) := by
  show PyData.eqvAll _ _ = _
  rw [eqv_strs]
  by_cases e : m = n
  · simp [e]
  · rw [decide_eq_false e]
    exact decide_eq_false fun z => e (wds_inj _ _ z)
theorem eqv_dTs : ∀ ms ns : List Cd, PyData.eqvAll (ms.map dT) (ns.map dT) = decide (ms = ns)
  | [], [] => rfl
  | [], _ :: _ => rfl
  | _ :: _, [] => rfl
  | x :: w, y :: u => by
    show (PyData.eqv (dT x) (dT y) && PyData.eqvAll _ _) = _
    rw [eqv_dTs w u, eqv_dT]
    by_cases e : x = y
    · by_cases z : w = u <;> simp [e, z]
    · simp [e]
theorem eqv_dL (ms ns : List Cd) : PyData.eqv (dL ms) (dL ns) = decide (ms = ns) := eqv_dTs ms ns
theorem any_dT (ms : List Cd) (m : Cd) : ((ms.map dT).any fun z => PyData.eqv z (dT m)) = ms.contains m := by
  induction ms with
  | nil => rfl
  | cons n ms ih =>
    rw [List.map_cons, List.any_cons, ih, eqv_dT, List.contains_cons]
    congr 1
    by_cases e : n = m
    · simp [e]
    · rw [decide_eq_false e]
      exact (Bool.eq_false_iff.mpr fun q => e (beq_iff_eq.mp q).symm).symm
def Ok3 (ws : List Str) : Prop := ∀ w ∈ ws, w ∈ all3
theorem lay3 : ∀ w ∈ all3, (PyData.str w).canLay0 = true := by decide +kernel
theorem ok3_wds (m : Cd) : Ok3 (wds m) := wds_in m
theorem strs_lay : ∀ ws : List Str, Ok3 ws → PyData.canLayAll0 (ws.map PyData.str) = true ∧ PyData.depthAll (ws.map PyData.str) ≤ 1
  | [], _ => ⟨rfl, by simp [PyData.depthAll]⟩
  | b :: r, ok => by
    obtain ⟨h1, h2⟩ := strs_lay r fun w hw => ok w (List.mem_cons_of_mem _ hw)
    refine ⟨?_, ?_⟩
    · show ((PyData.str b).canLay0 && PyData.canLayAll0 (r.map PyData.str)) = true
      rw [h1, lay3 b (ok b (List.mem_cons_self ..))]
      rfl
    · simp only [List.map_cons, PyData.depthAll, PyData.depth]
      omega
theorem dT_lay (m : Cd) : (dT m).canLay0 = true ∧ (dT m).depth ≤ 2 := by
  obtain ⟨h1, h2⟩ := strs_lay (wds m) (ok3_wds m)
  refine ⟨h1, ?_⟩
  show PyData.depthAll _ + 1 ≤ 2
  omega
theorem dTs_lay : ∀ ms : List Cd, PyData.canLayAll0 (ms.map dT) = true ∧ PyData.depthAll (ms.map dT) ≤ 2
  | [] => ⟨rfl, by simp [PyData.depthAll]⟩
  | b :: r => by
    obtain ⟨h1, h2⟩ := dTs_lay r
    obtain ⟨k1, k2⟩ := dT_lay b
    refine ⟨?_, ?_⟩
    · show ((dT b).canLay0 && PyData.canLayAll0 (r.map dT)) = true
      rw [h1, k1]
      rfl
    · simp only [List.map_cons, PyData.depthAll]
      omega
theorem dT_sh (m : Cd) : SeqAt.shaped (dT m) = true := by
  obtain ⟨h1, h2⟩ := dT_lay m
  simp only [SeqAt.shaped, Bool.and_eq_true, decide_eq_true_eq]
  exact ⟨h1, by omega⟩
theorem dL_sh (ms : List Cd) : SeqAt.shaped (dL ms) = true := by
  obtain ⟨h1, h2⟩ := dTs_lay ms
  simp only [SeqAt.shaped, Bool.and_eq_true, decide_eq_true_eq]
  refine ⟨h1, ?_⟩
  show PyData.depthAll _ + 1 ≤ 64
  omega
theorem strs_sh {ws : List Str} (ok : Ok3 ws) : SeqAt.shaped (.list (ws.map PyData.str)) = true := by
  obtain ⟨h1, h2⟩ := strs_lay ws ok
  simp only [SeqAt.shaped, Bool.and_eq_true, decide_eq_true_eq]
  refine ⟨h1, ?_⟩
  show PyData.depthAll _ + 1 ≤ 64
  omega
theorem dp_strs {K : PySem.W.Frag} {H : Hp} : ∀ ws : List Str, DpAll K H (ws.map V.str) (ws.map PyData.str)
  | [] => .nil
  | x :: r => .cons (.str x) (dp_strs r)
theorem dp_T {K : PySem.W.Frag} {H : Hp} {v : V} {m : Cd} (h : rT H v m) : Dp K H v (dT m) := by
  obtain ⟨a, rfl, h⟩ := h
  exact .tup (SqT.of h) (dp_strs _)
theorem dp_Ts {K : PySem.W.Frag} {H : Hp} : ∀ {xs : List V} {ms : List Cd}, Ev rT H xs ms → DpAll K H xs (ms.map dT)
  | [], [], _ => .nil
  | x :: xs, m :: ms, e => .cons (dp_T e.uncons.1) (dp_Ts e.uncons.2)
  | [], _ :: _, e => by cases e.1
  | _ :: _, [], e => by cases e.1
theorem dp_L {K : PySem.W.Frag} {H : Hp} {l : Addr} {ms : List Cd} (h : Ls rT H l ms) : Dp K H (.ref l) (dL ms) := by
  obtain ⟨xs, h, e⟩ := h
  exact .lst (SqL.of h) (dp_Ts e)
theorem inV_strs (n : Str) (xs : List Str) : inV (.str n) (xs.map V.str) = xs.contains n := by
  induction xs with
  | nil => rfl
  | cons x xs ih =>
    have e : inV (.str n) (V.str x :: xs.map V.str) = (eqV (.str x) (.str n) || inV (.str n) (xs.map V.str)) := rfl
    rw [List.map_cons, e, ih, List.contains_cons]
    show ((x == n) || _) = ((n == x) || _)
    rw [str_beq_dec, str_beq_dec]
    congr 1
    by_cases z : x = n
    · simp [z]
    · rw [decide_eq_false z, decide_eq_false fun q => z q.symm]
theorem flat_strs (ws : List Str) : (ws.map V.str).all flatV = true := by
  induction ws with
  | nil => rfl
  | cons a l ih =>
    rw [List.map_cons, List.all_cons, ih]
    rfl
end W8
set_option Elab.async false
set_option linter.all false
set_option maxRecDepth 100000
set_option maxHeartbeats 4000000
/-! Dicts by names: what stands behind each name, told by codes. -/
namespace Wh
open PySem PySem.Spec PyProof.Rows L2
open W8 (Ev Rp Kp Mono same_new take_snoc rW ev_words)
/-- all but dicts is as it was -/
def Kd (H H' : Hp) : Prop := ∀ b o, (∀ kvs, o ≠ .dK kvs) → H b = some o → H' b = some o
theorem Kd.of {H H' : Hp} (s : Same H H') : Kd H H' := fun b o _ e => s b o e
theorem Kd.dct {H : Hp} {D : Addr} {ys zs : List (Key × V)} (h : H D = some (.dK ys)) : Kd H (upd H D (.dK zs)) := fun b o n e => by
  rw [upd_ne fun z => by
    rw [z, h] at e
    exact n _ (Option.some.inj e).symm]
  exact e
def MonoD {α : Type} (R : Rp α) : Prop := ∀ H H' v c, Kd H H' → R H v c → R H' v c
theorem MonoD.ev {α : Type} {R : Rp α} {H H' : Hp} {xs : List V} {cs : List α} (m : MonoD R) (e : Ev R H xs cs) (s : Kd H H') : Ev R H' xs cs := ⟨e.1, fun i x c h k => m _ _ _ _ s (e.2 i x c h k)⟩
def kv2 (n : Str) (x : V) : Key × V := (Sum.inr n, x)
def kvz (ns : List Str) (xs : List V) : List (Key × V) := List.zipWith kv2 ns xs
/-- behind the names ns there stand cs -/
def Dc {α : Type} (R : Rp α) (H : Hp) (d : Addr) (ns : List Str) (cs : List α) : Prop := ∃ xs, H d = some (.dK (kvz ns xs)) ∧ xs.length = ns.length ∧ Ev R H xs cs
theorem Dc.same {α : Type} {R : Rp α} {H H' : Hp} {d : Addr} {ns : List Str} {cs : List α} (m : MonoD R) (h : Dc R H d ns cs) (s : Same H H') : Dc R H' d ns cs :=
  let ⟨xs, e, l, v⟩ := h
  ⟨xs, s _ _ e, l, m.ev v (.of s)⟩
theorem Dc.nil {α : Type} {R : Rp α} {H : Hp} {d : Addr} (h : H d = some (.dK [])) : Dc R H d [] [] := ⟨[], h, rfl, Ev.nil⟩
theorem key_ne {x y : Str} (h : ¬ x = y) : ¬ (Sum.inr x : Key) = Sum.inr y := fun z => h (Sum.inr.inj z)
theorem valV_kvz : ∀ (ns : List Str) (xs : List V) (n : Str), xs.length = ns.length → (n ∉ ns ∧ valV (kvz ns xs) (Sum.inr n) = none) ∨ ∃ i : Nat, ns[i]? = some n ∧ valV (kvz ns xs) (Sum.inr n) = xs[i]? ∧ ∃ x, xs[i]? = some x
  | [], [], n, _ => .inl ⟨by simp, rfl⟩
  | m :: ns, x :: xs, n, h => by
    by_cases e : m = n
    · subst e
      exact .inr ⟨0, rfl, valV_pos rfl, x, rfl⟩
    · have q : valV (kvz (m :: ns) (x :: xs)) (Sum.inr n) = valV (kvz ns xs) (Sum.inr n) := valV_neg (key_ne e)
      rcases valV_kvz ns xs n (by simpa using h) with ⟨h1, h2⟩ | ⟨i, h1, h2, y, h3⟩
      · exact .inl ⟨by simp [h1, Ne.symm e], q.trans h2⟩
      · exact .inr ⟨i + 1, by simpa using h1, q.trans h2, y, by simpa using h3⟩
  | [], _ :: _, _, h => by cases h
  | _ :: _, [], _, h => by cases h
section
variable {α : Type} {R : Rp α} {H : Hp} {d : Addr} {ns : List Str} {cs : List α} {n : Str}
/-- a name that is there -/
theorem Dc.get (h : Dc R H d ns cs) (hn : n ∈ ns) : ∃ (i : Nat) (x : V) (c : α), ns[i]? = some n ∧ cs[i]? = some c ∧ R H x c ∧ DGet H d (.str n) (some x) := by
  obtain ⟨xs, e, l, v⟩ := h
  rcases valV_kvz ns xs n l with ⟨h1, _⟩ | ⟨i, h1, h2, x, h3⟩
  · exact absurd hn h1
  · obtain ⟨c, hc, r⟩ := v.at h3
    have q := DGet.k (k := Sum.inr n) e
    rw [h2, h3] at q
    exact ⟨i, x, c, h1, hc, r, q⟩
/-- a name that is not -/
theorem Dc.no (h : Dc R H d ns cs) (hn : n ∉ ns) : DGet H d (.str n) none := by
  obtain ⟨xs, e, l, v⟩ := h
  rcases valV_kvz ns xs n l with ⟨_, h2⟩ | ⟨i, h1, _⟩
  · have q := DGet.k (k := Sum.inr n) e
    rw [h2] at q
    exact q
  · exact absurd (List.mem_of_getElem? h1) hn
/-- whether it is there -/
theorem Dc.has (h : Dc R H d ns cs) (n : Str) : ∃ o, DGet H d (.str n) o ∧ o.isSome = decide (n ∈ ns) := by
  by_cases hn : n ∈ ns
  · obtain ⟨i, x, c, _, _, _, g⟩ := h.get hn
    exact ⟨_, g, by rw [decide_eq_true hn]; rfl⟩
  · exact ⟨_, h.no hn, by rw [decide_eq_false hn]; rfl⟩
end
theorem kvz_length (ns : List Str) (xs : List V) (h : xs.length = ns.length) : (kvz ns xs).length = ns.length := by
  unfold kvz
  rw [List.length_zipWith, h, Nat.min_self]
theorem put_new {ns : List Str} {xs : List V} {n : Str} {x : V} (l : xs.length = ns.length) (h : n ∉ ns) : putK (kvz ns xs) (Sum.inr n) x = kvz (ns ++ [n]) (xs ++ [x]) := by
  have e : ¬ ((kvz ns xs).any fun kv => decide (kv.1 = (Sum.inr n : Key))) = true := by
    rw [List.any_eq_true]
    rintro ⟨kv, hk, e⟩
    have e := of_decide_eq_true e
    obtain ⟨i, hi, rfl⟩ := List.getElem_of_mem hk
    unfold kvz at e hi
    rw [List.getElem_zipWith] at e
    rw [List.length_zipWith] at hi
    have e := Sum.inr.inj e
    exact h (e ▸ List.getElem_mem _)
  unfold putK
  rw [if_neg e]
  unfold kvz
  rw [List.zipWith_append l.symm]
  rfl
/-- a new name at the end -/
theorem Dc.put {α : Type} {R : Rp α} {H : Hp} {d : Addr} {ns : List Str} {cs : List α} {n : Str} {x : V} {c : α} (m : MonoD R) (h : Dc R H d ns cs) (hn : n ∉ ns) (few : ns.length ≤ 1000) (r : R H x c) :
    ∃ H', DPut H d (.str n) x H' ∧ Dc R H' d (ns ++ [n]) (cs ++ [c]) ∧ (∀ b o, b ≠ d → H b = some o → H' b = some o) := by
  obtain ⟨xs, e, l, v⟩ := h
  refine ⟨_, DPut.k (k := Sum.inr n) e (by rw [kvz_length _ _ l, sizeLine_eq]; omega), ⟨xs ++ [x], ?_, by simp [l], ?_⟩, fun b o nb q => by rw [upd_ne nb]; exact q⟩
  · rw [upd_same, put_new l hn]
  · exact m.ev (v.append (Ev.cons r Ev.nil)) (.dct e)
/-- {n: e(n) for n in names}, the names different -/
theorem dc_sieve {α : Type} {R : Rp α} (mR : MonoD R) (f : Str → α) {K : PySem.W.Frag} {a : Addr} {ns : List Str} {tv : TE} {i : Nat} {σ : L2.St} {H : Hp} {D : Addr} {Q : Hp → Prop} (nd : ns.Nodup) (few : ns.length ≤ 1000) (hl : SqT K H a (ns.map V.str)) (hi : i < σ.length) (new : H D = none)
    (elt : ∀ (n : Str) (H1 : Hp) (Rq : VK), n ∈ ns → Same H H1 → (∀ y H2, Same H1 H2 → R H2 y (f n) → Rq y H2) → tv ((σ.set i none).set i (some (.str n))) H1 Rq)
    (k : ∀ H', Same H H' → Dc R H' D ns (ns.map f) → Q H') :
    ∃ W : Nat → Nat → Hp → Prop, (∃ m, W 0 m (upd H D (.dK []))) ∧ ∀ j m H, W j m H →
      ((Itt K a).stop j H ∧ Q H) ∨ ((Itt K a).go j H ∧ ∃ Nx : Hp → Prop, (∀ H', Nx H' → ∃ m', m' < m ∧ W (j + 1) m' H') ∧ ∀ x H', (Itt K a).yld j H x H' → gName i x (wipe σ [i]) H' fun σ2 H2 => wipe σ2 [i] = wipe σ [i] ∧ tYes σ2 H2 fun b H3 =>
        if b = true then tVar i σ2 H3 fun y H4 => tv σ2 H4 fun z H5 => ∃ kvs k, y = kV k ∧ H5 D = some (.dK kvs) ∧ kvs.length < sizeLine ∧ Nx (upd H5 D (.dK (putK kvs k z))) else Nx H3) := by
  refine dc_tup (xs := ns.map V.str) (fun j H' => Same H H' ∧ Dc R H' D (ns.take j) ((ns.take j).map f)) ⟨same_new new, Dc.nil upd_same⟩ (fun j H' _ q => q.1.sqT hl) ?_ fun H' q => ?_
  · rintro j x H1 hx ⟨sm, xs, hD, l, ex⟩
    obtain ⟨n, hn, r⟩ := (ev_words (H := H) ns).at hx
    have r : x = .str n := r
    subst r
    have mn : n ∈ ns := List.mem_of_getElem? hn
    refine ⟨by simp [wipe, List.set_set], ?_⟩
    dsimp only [tYes]
    rw [if_pos rfl]
    refine ⟨.str n, by simp [wipe, hi], elt n H1 _ mn sm fun y H2 s2 r2 => ?_⟩
    have hnew : n ∉ ns.take j := fun z => by
      obtain ⟨q, hq, e⟩ := List.getElem_of_mem z
      rw [List.length_take] at hq
      rw [List.getElem_take] at e
      have k1 : ns[q]? = some n := by rw [← e]; exact List.getElem?_eq_getElem _
      have := (List.getElem?_inj (i := q) (j := j) (by omega) nd).mp (k1.trans hn.symm)
      omega
    refine ⟨_, Sum.inr n, rfl, s2 _ _ hD, ?_, ?_, ?_⟩
    · rw [kvz_length _ _ l, List.length_take, sizeLine_eq]
      omega
    · exact (sm.trans s2).over new
    · rw [take_snoc hn, List.map_append]
      refine ⟨xs ++ [y], ?_, by simp [l], ?_⟩
      · rw [upd_same, put_new l hnew]
      · exact mR.ev ((mR.ev ex (.of s2)).append (Ev.cons r2 Ev.nil)) (.dct (s2 _ _ hD))
  · obtain ⟨sm, d⟩ := q
    have e : ns.take (ns.map V.str).length = ns := by
      rw [List.length_map]
      exact List.take_length
    rw [e] at d
    exact k H' sm d
end Wh
set_option Elab.async false
set_option linter.all false
set_option maxRecDepth 100000
set_option maxHeartbeats 4000000
namespace Wh
open PySem PySem.Spec PyProof.Rows L2
open Wp hiding Same.refl Same.trans same_new
open W8 (Ev Rp Kp Mono same_new take_snoc rW rB mW mB ev_words ev_words_eq ev_bools_eq lc_sieve)
theorem ps_dead {X : Cx} {st : Stmt} : PS X st (fun _ _ _ => False) := ⟨fun _ _ _ _ _ _ h => h.elim⟩
/-! ## kinds as they stand -/
structure KD where
  n : Str
  fs : List FV
  b : Option Str
  f : Bool
  h : Bool
  k : Option Str
  r : Bool
deriving DecidableEq
def rF (K : PySem.W.Frag) (CF : Addr) : Rp FV := fun H v x => ∃ a, v = .ref a ∧ FieldAt K CF H a x
def TuK {α : Type} (K : PySem.W.Frag) (R : Rp α) (H : Hp) (l : Addr) (cs : List α) : Prop := ∃ xs, SqT K H l xs ∧ Ev R H xs cs
def rK (K : PySem.W.Frag) (CF CK : Addr) : Rp KD := fun H v x => ∃ a dx tf, v = .ref a ∧ H a = some (.ins CK dx (fsK (.str x.n) (.ref tf) (tv x.b) (.bl x.f) (.bl x.h) (tv x.k) (.bl x.r))) ∧ TuK K (rF K CF) H tf x.fs
/-- a relation between heaps under which tuples and things stay -/
structure Stay (H H' : Hp) : Prop where
  t : ∀ b xs, H b = some (.tup xs) → H' b = some (.tup xs)
  z : ∀ b o xs, H b = some (.frz o (.tup xs)) → H' b = some (.frz o (.tup xs))
  i : ∀ b C d fs, H b = some (.ins C d fs) → H' b = some (.ins C d fs)
theorem Stay.kp {H H' : Hp} (s : Kp H H') : Stay H H' := ⟨fun b xs e => s _ _ (fun _ z => by cases z) e, fun b o xs e => s _ _ (fun _ z => by cases z) e, fun b C d fs e => s _ _ (fun _ z => by cases z) e⟩
theorem Stay.kd {H H' : Hp} (s : Kd H H') : Stay H H' := ⟨fun b xs e => s _ _ (fun _ z => by cases z) e, fun b o xs e => s _ _ (fun _ z => by cases z) e, fun b C d fs e => s _ _ (fun _ z => by cases z) e⟩
theorem Stay.sqT {K : PySem.W.Frag} {H H' : Hp} {a : Addr} {xs : List V} (s : Stay H H') (h : SqT K H a xs) : SqT K H' a xs := by
  rcases h with (h | ⟨o, h⟩) | h
  · exact .inl (.inl (s.t _ _ h))
  · exact .inl (.inr ⟨o, s.z _ _ _ h⟩)
  · exact .inr h
section
variable {K : PySem.W.Frag} {CF CK : Addr} {H H' : Hp} {v : V}
theorem rF_stay {x : FV} (s : Stay H H') (h : rF K CF H v x) : rF K CF H' v x := by
  obtain ⟨a, e, ⟨dx, tw, h1, h2⟩, sh⟩ := h
  exact ⟨a, e, ⟨dx, tw, s.i _ _ _ _ h1, s.sqT h2⟩, sh⟩
theorem TuK.stay {l : Addr} {cs : List FV} (s : Stay H H') (h : TuK K (rF K CF) H l cs) : TuK K (rF K CF) H' l cs := by
  obtain ⟨xs, h1, h2⟩ := h
  exact ⟨xs, s.sqT h1, h2.1, fun i x c a b => rF_stay s (h2.2 i x c a b)⟩
theorem rK_stay {x : KD} (s : Stay H H') (h : rK K CF CK H v x) : rK K CF CK H' v x := by
  obtain ⟨a, dx, tf, e, h1, h2⟩ := h
  exact ⟨a, dx, tf, e, s.i _ _ _ _ h1, h2.stay s⟩
end
theorem mF (K : PySem.W.Frag) (CF : Addr) : Mono (rF K CF) := fun _ _ _ _ s => rF_stay (.kp s)
theorem mK (K : PySem.W.Frag) (CF CK : Addr) : Mono (rK K CF CK) := fun _ _ _ _ s => rK_stay (.kp s)
theorem dK (K : PySem.W.Frag) (CF CK : Addr) : MonoD (rK K CF CK) := fun _ _ _ _ s => rK_stay (.kd s)
/-- a tuple of fields as a value -/
def rTF (K : PySem.W.Frag) (CF : Addr) : Rp (List FV) := fun H v x => ∃ t, v = .ref t ∧ TuK K (rF K CF) H t x
theorem dTF (K : PySem.W.Frag) (CF : Addr) : MonoD (rTF K CF) := fun _ _ _ _ s ⟨t, e, h⟩ => ⟨t, e, h.stay (.kd s)⟩
theorem sTF {K : PySem.W.Frag} {CF : Addr} {H H' : Hp} {v : V} {x : List FV} (h : rTF K CF H v x) (s : Same H H') : rTF K CF H' v x := dTF K CF _ _ _ _ (.of s) h
/-- a kind's fields, those of its base ahead -/
def baseFs (ks : List KD) (b : Str) : List FV := ((ks.find? fun e => decide (e.n = b)).map (·.fs)).getD []
def allF (ks : List KD) (x : KD) : List FV := match x.b with
  | none => x.fs
  | some b => baseFs ks b ++ x.fs
theorem find_at {ks : List KD} (nd : (ks.map (·.n)).Nodup) {i : Nat} {e : KD} (h : ks[i]? = some e) : (ks.find? fun z => decide (z.n = e.n)) = some e := by
  induction ks generalizing i with
  | nil => simp at h
  | cons x ks ih =>
    rw [List.map_cons, List.nodup_cons] at nd
    cases i with
    | zero =>
      simp at h
      subst h
      simp
    | succ i =>
      have h' : ks[i]? = some e := by simpa using h
      have ne : ¬ x.n = e.n := fun z => nd.1 (by rw [z]; exact List.mem_map_of_mem (List.mem_of_getElem? h'))
      rw [List.find?_cons, decide_eq_false ne]
      exact ih nd.2 h'
section
variable {P : Program} {w : World} {K : PySem.W.Frag} {mg : Str → Option Value} {base : Heap} {CF CK CH : Addr}
/-! ## _all_fields -/
abbrev sAll : Stmt := top 30
abbrev nAll : List Str := ["kind", "by_name"]
def spAll (K : PySem.W.Frag) (CF CK : Addr) : Sp := fun vs H Q _ => ∃ (v : V) (d : Addr) (x : KD) (ks : List KD), vs = [v, .ref d] ∧ rK K CF CK H v x ∧ Dc (rK K CF CK) H d (ks.map (·.n)) ks ∧ (ks.map (·.n)).Nodup ∧ (∀ b, x.b = some b → b ∈ ks.map (·.n)) ∧ (allF ks x).length ≤ 1000 ∧
  ∀ (t : Addr) H', Same H H' → TuK K (rF K CF) H' t (allF ks x) → Q (.ref t) H'
theorem scAll : FnScope nAll nAll (defScope sAll) := ⟨rfl, rfl, rfl, by decide +kernel, rfl, by decide +kernel, by decide +kernel⟩
theorem ok_all {f : Addr} {fd : FuncData} (F : Fun K "_all_fields" "_all_fields" sAll f fd) (C : PlainC K CK ["name", "fields", "base", "frozen", "heirs", "key", "registered"]) : FnOk P w K mg base CX0 1 f fd nAll (spAll K CF CK) := by
  refine F.ok scAll (fun vs H Q E h => ?_) (fun cdv A outer s H vs Q E hr h => ?_)
  · obtain ⟨v, d, x, ks, rfl, _⟩ := h
    rfl
  · obtain ⟨_, d, x, ks, rfl, ⟨a, dx, tf, rfl, ha, hf⟩, hd, nd, hb, few, k⟩ := h
    have hu := hu_of hr
    refine ⟨_, 
      (pss_cons (ps_if (pt_cmp (pc_isN (pe_fld (pv 0) rfl))) 
        (pss_one (ps_ret (pe_fld (pv 0) rfl))) pss_nil)
      (pss_one (ps_ret (pe_op op_catA (pe_fld (pe_dget hu (pv 1) (pe_fld (pv 0) rfl) (fun _ _ => rfl)) rfl) (pe_fld (pv 0) rfl))))), ?_⟩
    refine ⟨_, rfl, a, CK, dx, _, _, rfl, ha, C.cl, C.no _ (by simp), (lk_ks _ _ _ _ _ _ _).2.2.1, _, rfl, ?_⟩
    cases e : x.b with
    | none =>
      have ea : allF ks x = x.fs := by
        unfold allF
        rw [e]
      rw [ea] at k
      exact ⟨_, rfl, a, CK, dx, _, _, rfl, ha, C.cl, C.no _ (by simp), (lk_ks _ _ _ _ _ _ _).2.1, k tf H (Same.refl _) hf⟩
    | some b =>
      obtain ⟨i, y, z, hn, hz, ⟨a2, dx2, tf2, rfl, ha2, us2, hf2, ev2⟩, g⟩ := hd.get (hb b e)
      have ez : z.n = b := by
        rw [List.getElem?_map, hz] at hn
        exact Option.some.inj hn
      have ea : allF ks x = z.fs ++ x.fs := by
        unfold allF baseFs
        rw [e]
        have q := find_at nd hz
        rw [ez] at q
        show ((ks.find? fun e => decide (e.n = b)).map (·.fs)).getD [] ++ x.fs = _
        rw [q]
        rfl
      rw [ea] at k few
      obtain ⟨us, hus, evu⟩ := hf
      have lz : us2.length + us.length ≤ sizeLine := by
        rw [ev2.1, evu.1, sizeLine_eq]
        rw [List.length_append] at few
        omega
      refine ⟨_, rfl, _, rfl, a, CK, dx, _, _, rfl, ha, C.cl, C.no _ (by simp), (lk_ks _ _ _ _ _ _ _).2.2.1, d, _, rfl, by rw [e]; exact g, ?_⟩
      refine ⟨a2, CK, dx2, _, _, rfl, ha2, C.cl, C.no _ (by simp), (lk_ks _ _ _ _ _ _ _).2.1, ?_⟩
      refine ⟨_, rfl, a, CK, dx, _, _, rfl, ha, C.cl, C.no _ (by simp), (lk_ks _ _ _ _ _ _ _).2.1, tf2, tf, us2, us, rfl, rfl, hf2, hus, lz, fun e2 => ?_, fun _ e2 => ?_, fun _ _ p hp => ?_⟩
      · refine k tf H (Same.refl _) ⟨us, hus, ?_⟩
        have : z.fs = [] := List.eq_nil_of_length_eq_zero (by rw [← ev2.1, e2]; rfl)
        rw [this]
        exact evu
      · refine k tf2 H (Same.refl _) ⟨us2, hf2, ?_⟩
        have : x.fs = [] := List.eq_nil_of_length_eq_zero (by rw [← evu.1, e2]; rfl)
        rw [this, List.append_nil]
        exact ev2
      · have s1 := same_new (o := .tup (us2 ++ us)) hp
        exact k p _ s1 ⟨us2 ++ us, SqT.of upd_same, (ev2.append evu).same (mF K CF) s1⟩
/-! ## _check_kinds -/
abbrev sChk : Stmt := top 28
abbrev nChk : List Str := ["kinds", "kind"]
def spChk (K : PySem.W.Frag) (CF CK : Addr) : Sp := fun vs H Q _ => ∃ (l : Addr) (xs : List V) (ks : List KD), vs = [.ref l] ∧ (SqL K H l xs ∨ SqT K H l xs) ∧ Ev (rK K CF CK) H xs ks ∧ 1 ≤ ks.length ∧ ks.length ≤ 12 ∧ ∀ H', Same H H' → Q .non H'
theorem scChk : FnScope nChk ["kinds"] (defScope sChk) := ⟨rfl, rfl, rfl, by decide +kernel, rfl, by decide +kernel, by decide +kernel⟩
theorem kit_seqv {K : PySem.W.Frag} {t : String} (h : t = "list" ∨ t = "tuple") : PySem.W.kitAny K (.type t) [.type "list", .type "tuple"] = some true := by
  rcases h with rfl | rfl
  · exact kitAny_cons (kit_ty (b := "list") (r := true) (by decide +kernel)) (fun h => nomatch h) (fun _ => rfl)
  · exact kitAny_cons (kit_ty (b := "list") (r := false) (by decide +kernel)) (fun _ => kitAny_cons (kit_ty (b := "tuple") (r := true) (by decide +kernel)) (fun h => nomatch h) (fun _ => rfl)) (fun h => nomatch h)
theorem seq_ty {H : Hp} {l : Addr} {xs : List V} (h : SqL K H l xs ∨ SqT K H l xs) : ∃ t, TyX K H (.ref l) (.type t) ∧ (t = "list" ∨ t = "tuple") := by
  rcases h with h | h
  · exact ⟨_, Wp.SqL.ty h, .inl rfl⟩
  · exact ⟨_, Wp.SqT.ty h, .inr rfl⟩
theorem seq_same {H H' : Hp} {l : Addr} {xs : List V} (s : Same H H') (h : SqL K H l xs ∨ SqT K H l xs) : SqL K H' l xs ∨ SqT K H' l xs := h.imp s.seq s.sqT
theorem ok_chk {f : Addr} {fd : FuncData} {mc u12 : Value} (F : Fun K "_check_kinds" "_check_kinds" sChk f fd) (B : Bn mg) (O : OwnC K CK) (gK : mg "Kind" = some (.ref CK)) (gH : mg "House" = some (.ref CH)) (cr : ClX.CRead K CH mc) (cv : ClX.CVal K CH mc "KINDS" (.int 12) u12) :
    FnOk P w K mg base CX0 1 f fd ["kinds"] (spChk K CF CK) := by
  refine F.ok scChk (fun vs H Q E h => ?_) (fun cdv A outer s H vs Q E hr h => ?_)
  · obtain ⟨l, xs, ks, rfl, _⟩ := h
    rfl
  · obtain ⟨l, xs, ks, rfl, sq, ev, n1, n12, k⟩ := h
    refine ⟨_, 
      (pss_cons (ps_if (PW.pt (pw_or (pt_not (pt_val (pe_callB call_isiT (by rfl) B.isi boot_isi (pa_cons (pv 0) (pa_cons (pe_tup (pa_cons (pe_bltn (v := .ty "list") (by rfl) B.list PyProof.Rows.boot_list rfl) (pa_cons (pe_bltn (v := .ty "tuple") (by rfl) B.tuple boot_ttuple rfl) pa_nil))) pa_nil))))) (pw_or1 (pt_not (pt_chain op_le op_le pe_int (pe_callB call_len_seq (by rfl) B.len PySem.boot_len (pa_cons (pv 0) pa_nil)) (ClX.pe_cval (pe_glob (v := .ref CH) (by rfl) gH rfl))))))) 
        (pss_one ps_dead) pss_nil)
      (pss_one (ps_for PassesOwn.never rfl (pi_seqV (i := 0) (pv 0)) (pg_name (i := 1) scChk.nd rfl (Or.inl rfl)) 
        (pss_one (ps_if (pt_not (pt_val (pe_callB call_isi (by rfl) B.isi boot_isi (pa_cons (pv 1) (pa_cons (pe_glob (v := .ref CK) (by rfl) gK rfl) pa_nil))))) 
          (pss_one ps_dead) pss_nil))))), ?_⟩
    refine ⟨_, rfl, by show 2 ≤ sizeLine; decide, fun T hT => ?_⟩
    have s1 : Same H (upd H T (.tup [.ty "list", .ty "tuple"])) := same_new hT
    have sq1 := seq_same s1 sq
    obtain ⟨t, ty, ht⟩ := seq_ty sq1
    refine ⟨.ref l, T, [.ty "list", .ty "tuple"], _, [.type "list", .type "tuple"], _, rfl, upd_same, .cons (.ty _) (.cons (.ty _) .nil), ty, kit_seqv ht, _, rfl, iteF ?_⟩
    have e1 : decide ((1 : Int) ≤ (xs.length : Nat)) = true := decide_eq_true (by rw [ev.1]; omega)
    have e2 : decide (((xs.length : Nat) : Int) ≤ 12) = true := decide_eq_true (by rw [ev.1]; omega)
    refine ⟨_, rfl, l, xs, rfl, sq1, _, _, rfl, rfl, _, rfl, ?_⟩
    rw [e1]
    refine iteT ⟨CH, _, _, _, rfl, cr, cv, _, _, rfl, rfl, _, rfl, ?_⟩
    rw [e2]
    refine iteF ?_
    refine ⟨l, xs, rfl, sq1, fun J G w hG => ?_⟩
    refine for_it w (fun i σ H' => ∃ y1, σ = [some (.ref l), y1] ∧ Same (upd H T (.tup [.ty "list", .ty "tuple"])) H') ⟨none, rfl, Same.refl _⟩ (fun i σ H' _ ⟨_, _, s⟩ => hG H' (.of s)) ?_ ?_
    · rintro i v σ H1 H2 hi ⟨y1, rfl, s2⟩ ⟨rfl, hv⟩
      obtain ⟨c, hc, a, dx, tf, rfl, ha, _⟩ := ev.at hv
      exact ⟨_, rfl, .ref a, .ref CK, _, _, true, rfl, .own _, O.ty ((s1.trans s2) _ _ ha), O.self, _, rfl, iteF ⟨_, rfl, s2⟩⟩
    · rintro σ H1 ⟨y1, rfl, s2⟩
      exact k H1 (s1.trans s2)
end
end Wh
set_option Elab.async false
set_option linter.all false
set_option maxRecDepth 100000
set_option maxHeartbeats 4000000
namespace L2
open PySem PySem.Spec PyProof.Rows
/-! A block is cut behind a statement: what holds there is said once, whatever way led to it. -/
def tCut (t u : TS) : TS := fun D σ H => ∃ W : L2.St → Hp → Prop, t { D with nx := W } σ H ∧ ∀ σ' H', W σ' H' → u D σ' H'
theorem pss_cut {X : Cx} {st : Stmt} {rest : List Stmt} {t u : TS} (h1 : PS X st t) (h2 : PSs X rest u) : PSs X (st :: rest) (tCut t u) := by
  refine ⟨fun pins s σ H D I h => ?_⟩
  obtain ⟨W, hW, hN⟩ := h
  refine wpAny_execs_cons (thn (h1.run pins s σ H { D with nx := W } I hW) fun f s1 q => ?_)
  cases f with
  | next =>
    obtain ⟨σ', H', I', q⟩ := q
    exact h2.run pins s1 σ' H' D I' (hN σ' H' q)
  | ret v => exact q
  | brk => exact q
  | cont => exact q
end L2
set_option Elab.async false
set_option linter.all false
set_option maxRecDepth 100000
set_option maxHeartbeats 4000000
namespace Wh
open PySem PySem.Spec PyProof.Rows L2
open Wp hiding Same.refl Same.trans same_new boot_all
open W8 (Ev Rp Kp Mono same_new take_snoc rW rB mW mB ev_words ev_words_eq ev_bools_eq lc_sieve)
def slotB (g : FV) : Bool := !decide (g.m = "mark")
/-- what a kind keeps behind those that stand before it -/
structure Alone (es : List KD) (names : List Str) (x : KD) : Prop where
  new : x.n ∉ es.map (·.n)
  base : ∀ b, x.b = some b → ∃ e ∈ es, e.n = b ∧ e.h = true
  few : (allF es x).length ≤ 10
  diff : ((allF es x).map (·.n)).Nodup
  aim : ∀ g ∈ allF es x, slotB g = true → ∃ t, g.t = some t ∧ (t = "any" ∨ t ∈ names)
  key : ∀ k, x.k = some k → (∀ g ∈ allF es x, slotB g = false) ∧ k ∈ (allF es x).map (·.n)
section
variable {P : Program} {w : World} {K : PySem.W.Frag} {mg : Str → Option Value} {base : Heap} {CF CK CH : Addr}
abbrev sAln : Stmt := top 29
abbrev nAln : List Str := ["kind", "earlier", "names", "fields", "slots", "field"]
def spAln (K : PySem.W.Frag) (CF CK : Addr) : Sp := fun vs H Q _ => ∃ (v : V) (d t : Addr) (x : KD) (es : List KD) (names : List Str), vs = [v, .ref d, .ref t] ∧ rK K CF CK H v x ∧ Dc (rK K CF CK) H d (es.map (·.n)) es ∧ (es.map (·.n)).Nodup ∧
  SqT K H t (names.map V.str) ∧ Alone es names x ∧ ∀ H', Same H H' → Q (.bl true) H'
theorem scAln : FnScope nAln ["kind", "earlier", "names"] (defScope sAln) := ⟨rfl, rfl, rfl, by decide +kernel, rfl, by decide +kernel, by decide +kernel⟩
theorem dec_s {x y : Str} : decide (V.str x = V.str y) = decide (x = y) := by simp
theorem filter_all {α : Type} (xs : List α) : xs.filter (fun _ => true) = xs := List.filter_eq_self.mpr fun _ _ => rfl
theorem mem_in {n : Str} {ns : List Str} : inV (.str n) (ns.map V.str) = decide (n ∈ ns) := by
  rw [Bool.eq_iff_iff, decide_eq_true_eq]
  unfold inV
  rw [List.any_map, List.any_eq_true]
  constructor
  · rintro ⟨x, hx, e⟩
    exact (show x = n from beq_iff_eq.mp e) ▸ hx
  · exact fun h => ⟨n, h, beq_self_eq_true n⟩
theorem flat_strs (ns : List Str) : (ns.map V.str).all flatV = true := by
  rw [List.all_map, List.all_eq_true]
  intro _ _
  rfl
theorem ok_aln {f f1 f2 : Addr} {fd fd1 fd2 : FuncData} {mc u10 : Value} (F : Fun K "_holds_alone" "_holds_alone" sAln f fd) (B : Bn mg) (C : PlainC K CK ["name", "fields", "base", "frozen", "heirs", "key", "registered"]) (CFc : PlainC K CF ["name", "mode", "target", "default", "was"])
    (AF : Known P w K mg base CX0 1 "_all_fields" ["kind", "by_name"] (spAll K CF CK) f1 fd1) (DF : Known P w K mg base CX0 1 "are_different" ["names"] (spDiff K) f2 fd2)
    (gA : ∃ u, mg "ANY" = some u ∧ RelV (.str "any") u) (gH : mg "House" = some (.ref CH)) (cr : ClX.CRead K CH mc) (cv : ClX.CVal K CH mc "FIELDS" (.int 10) u10) :
    FnOk P w K mg base CX0 2 f fd ["kind", "earlier", "names"] (spAln K CF CK) := by
  refine F.ok scAln (fun vs H Q E h => ?_) (fun cdv A outer s H vs Q E hr h => ?_)
  · obtain ⟨v, d, t, x, es, names, rfl, _⟩ := h
    rfl
  · obtain ⟨_, d, t, x, es, names, rfl, hk0, hd, nd, ht, al, k⟩ := h
    obtain ⟨a, dx, tf, rfl, ha, hf⟩ := id hk0
    have hu := hu_of hr
    refine ⟨_, 
      (pss_cons (ps_if (pt_cmp (pc_din hu (pe_fld (pv 0) rfl) (pv 1))) 
        (pss_one (ps_ret pe_bl)) pss_nil)
      (pss_cut (ps_if (PW.pt (pw_and (pt_cmp (pc_notN (pe_fld (pv 0) rfl))) (pw_and1 (PW.pt (pw_or (pt_cmp (pc_dnotin hu (pe_fld (pv 0) rfl) (pv 1))) (pw_or1 (pt_not (pt_val (pe_fld (pe_dget hu (pv 1) (pe_fld (pv 0) rfl) (fun _ _ => rfl)) rfl))))))))) 
        (pss_one (ps_ret pe_bl)) pss_nil)
      (pss_cons (ps_set (i := 3) scAln.nd rfl (.inl rfl) (pe_call AF.ok (hr.mono (by decide)) rfl AF.mg AF.kp AF.bi .nil pass0 (pa_cons (pv 0) (pa_cons (pv 1) pa_nil))))
      (pss_cons (ps_if (PW.pt (pw_or (pt_cmpR op_gt (pe_callB call_len_seq (by rfl) B.len PySem.boot_len (pa_cons (pv 3) pa_nil)) (ClX.pe_cval (pe_glob (v := .ref CH) (by rfl) gH rfl)) (nomark _)) (pw_or1 (pt_not (pt_val (pe_call DF.ok (hr.mono (by decide)) rfl DF.mg DF.kp DF.bi .nil pass0 (pa_cons (pe_lc (own := [("field", 5)]) (g := gName 5) (tt := tYes) (te := tFld K (tVar 5) "name") rfl scAln.nd (pi_tup (pv 3)) (blkOk_by (N := nAln) (sc := defScope sAln) (by decide +kernel)) (fun _ _ _ _ _ => pg_name (i := 5) scAln.nd rfl (Or.inl rfl)) (fun _ _ _ _ _ => pts_nil) (fun _ _ _ _ _ => (pe_fld (pv 5) rfl))) pa_nil))))))) 
        (pss_one (ps_ret pe_bl)) pss_nil)
      (pss_cons (ps_setLc (i := 4) (own := [("field", 5)]) (g := gName 5) (te := tVar 5) (tt := tTest (tOp rNe (tFld K (tVar 5) "mode") (tC (.str "mark")))) rfl scAln.nd rfl rfl (sw_true rfl rfl rfl (by decide +kernel)) (pi_tup (pv 3)) (blkOk_by (N := nAln) (sc := defScope sAln) (by decide +kernel)) (fun _ _ _ _ _ => pg_name (i := 5) scAln.nd rfl (Or.inl rfl)) (fun _ _ _ _ _ => pts_one (pt_cmpR op_ne (pe_fld (pv 5) rfl) pe_str (nomark _))) (fun _ _ _ _ _ => (pv 5)))
      (pss_cons (ps_if (pt_not (pt_val (pe_callB (cr_all rfl) (by rfl) B.all boot_all (pa_cons (pe_lc (own := [("field", 5)]) (g := gName 5) (tt := tYes) (te := tOrV (tOp rEq (tFld K (tVar 5) "target") (tC (.str "any"))) (tOp (rIn K false) (tFld K (tVar 5) "target") (tVar 2))) rfl scAln.nd (pi_list (pv 4)) (blkOk_by (N := nAln) (sc := defScope sAln) (by decide +kernel)) (fun _ _ _ _ _ => pg_name (i := 5) scAln.nd rfl (Or.inl rfl)) (fun _ _ _ _ _ => pts_nil) (fun _ _ _ _ _ => (pe_or (pe_cmpR op_eq (pe_fld (pv 5) rfl) (pe_cn (by rfl) gA) (nomark _)) (pe_one (pe_cmpR (show OpR _ (compareOp .In) (rIn K false) from op_in_seq) (pe_fld (pv 5) rfl) (pv 2) (by rfl)))))) pa_nil)))) 
        (pss_one (ps_ret pe_bl)) pss_nil)
      (pss_one (ps_ret (pe_or (pe_cmp (pc_isN (pe_fld (pv 0) rfl)) rfl) (pe_one (pe_and (pe_notT (pv 4)) (pe_one (pe_cmpR op_in_seq (pe_fld (pv 0) rfl) (pe_lc (own := [("field", 5)]) (g := gName 5) (tt := tYes) (te := tFld K (tVar 5) "name") rfl scAln.nd (pi_tup (pv 3)) (blkOk_by (N := nAln) (sc := defScope sAln) (by decide +kernel)) (fun _ _ _ _ _ => pg_name (i := 5) scAln.nd rfl (Or.inl rfl)) (fun _ _ _ _ _ => pts_nil) (fun _ _ _ _ _ => (pe_fld (pv 5) rfl))) (by rfl)))))))))))))), ?_⟩
    refine ⟨_, rfl, a, CK, dx, _, _, rfl, ha, C.cl, C.no _ (by simp), (lk_ks _ _ _ _ _ _ _).1, _, rfl, d, _, rfl, hd.no al.new, _, rfl, iteF ?_⟩
    refine ⟨fun σ H' => σ = [some (.ref a), some (.ref d), some (.ref t), none, none, none] ∧ H' = H, ?_, ?_⟩
    · refine ⟨_, rfl, a, CK, dx, _, _, rfl, ha, C.cl, C.no _ (by simp), (lk_ks _ _ _ _ _ _ _).2.2.1, ?_⟩
      cases e : x.b with
      | none => exact ⟨_, rfl, iteF (iteF ⟨rfl, rfl⟩)⟩
      | some b =>
        obtain ⟨y, my, ey, hy⟩ := al.base b e
        obtain ⟨i, u, z, hn, hz, r, g⟩ := hd.get (n := b) (ey ▸ List.mem_map_of_mem my)
        obtain ⟨a2, dx2, tf2, rfl, ha2, us2, hf2, ev2⟩ := r
        have ez : z = y := by
          rw [List.getElem?_map, hz] at hn
          have q1 := find_at nd hz
          obtain ⟨j, hj, ej⟩ := List.getElem_of_mem my
          have q2 := find_at nd (List.getElem?_eq_getElem hj)
          rw [ej, ey, ← Option.some.inj hn, q1] at q2
          exact Option.some.inj q2
        subst ez
        have g2 : DGet H d (tv x.b) (some (V.ref a2)) := by
          rw [e]
          exact g
        rw [e] at ha
        refine ⟨_, rfl, iteT ⟨_, rfl, a, CK, dx, _, _, rfl, ha, C.cl, C.no _ (by simp), (lk_ks _ _ _ _ _ _ _).2.2.1, _, rfl, d, _, rfl, g, _, rfl, iteF ?_⟩⟩
        refine ⟨_, rfl, _, rfl, a, CK, dx, _, _, rfl, ha, C.cl, C.no _ (by simp), (lk_ks _ _ _ _ _ _ _).2.2.1, d, _, rfl, g, a2, CK, dx2, _, _, rfl, ha2, C.cl, C.no _ (by simp), (lk_ks _ _ _ _ _ _ _).2.2.2.2.1, _, rfl, ?_⟩
        rw [hy]
        exact iteF ⟨rfl, rfl⟩
    · rintro σ H0 ⟨rfl, rfl⟩
      refine ⟨_, rfl, _, rfl, .ref a, d, x, es, rfl, hk0, hd, nd, ?_, ?_, fun t2 H1 s1 ht2 => ?_⟩
      · intro b e
        obtain ⟨y, my, ey, _⟩ := al.base b e
        exact ey ▸ List.mem_map_of_mem my
      · exact Nat.le_trans al.few (by decide)
      obtain ⟨us, hus, evu⟩ := ht2
      have few : (allF es x).length ≤ 1000 := Nat.le_trans al.few (by decide)
      have nf : decide ((10 : Int) < ((us.length : Nat) : Int)) = false := decide_eq_false (by
        have := al.few
        rw [evu.1]
        omega)
      refine ⟨_, rfl, t2, us, rfl, .inr hus, CH, _, _, _, rfl, cr, cv, _, _, rfl, rfl, _, rfl, ?_⟩
      rw [nf]
      refine iteF ?_
      have rd : ∀ (H2 : Hp) (b : Addr) (g : FV), rF K CF H2 (.ref b) g → ∃ dy tw, H2 b = some (.ins CF dy (fsF (.str g.n) (.str g.m) (tv g.t) (.int g.d) tw)) := by
        rintro H2 b g ⟨b2, e2, ⟨dy, tw, hb, _⟩, _⟩
        cases e2
        exact ⟨dy, tw, hb⟩
      refine ⟨_, rfl, t2, rfl, ⟨us, hus⟩, fun D hD => ?_⟩
      refine lc_sieve (mF K CF) mW (fun _ => true) (fun g => g.n) walk_tup few (fun H2 s2 => s2.sqT hus) hD evu (fun v c H2 Rq _ _ _ kk => kk _ (Same.refl _)) ?_ ?_
      · rintro v c H2 Rq _ _ _ r kk
        obtain ⟨b, rfl, _⟩ := id r
        obtain ⟨dy, tw, hb⟩ := rd _ _ _ r
        exact ⟨_, rfl, b, CF, dy, _, _, rfl, hb, CFc.cl, CFc.no _ (by simp), (lk_fs _ _ _ _ _).2.2.2.2, kk _ _ (Same.refl _) rfl⟩
      intro H2 ys s2 hys ey
      rw [filter_all] at ey
      have eys := ev_words_eq ey
      subst eys
      have fewN : ((allF es x).map (fun g => g.n)).length ≤ 1000 := by rw [List.length_map]; exact few
      refine ⟨D, (allF es x).map (fun g => g.n), rfl, ⟨.inl (SqL.of hys), fewN⟩, _, rfl, ?_⟩
      rw [decide_eq_true al.diff]
      refine iteF ?_
      have hus2 := s2.sqT hus
      have evu2 := evu.same (mF K CF) s2
      refine ⟨_, rfl, t2, rfl, ⟨us, hus2⟩, fun D3 hD3 => ?_⟩
      refine lc_sieve (mF K CF) (mF K CF) slotB id walk_tup few (fun H3 s3 => s3.sqT hus2) hD3 evu2 ?_ ?_ ?_
      · rintro v c H3 Rq _ s3 r kk
        obtain ⟨b, rfl, _⟩ := id r
        obtain ⟨dy, tw, hb⟩ := rd _ _ _ r
        refine ⟨_, rfl, b, CF, dy, _, _, rfl, hb, CFc.cl, CFc.no _ (by simp), (lk_fs _ _ _ _ _).2.2.2.1, rfl, _, rfl, ?_⟩
        rw [dec_s]
        exact kk _ (Same.refl _)
      · rintro v c H3 Rq _ _ s3 r kk
        exact ⟨_, rfl, kk _ _ (Same.refl _) r⟩
      intro H3 zs s3 hzs ez
      rw [List.map_id] at ez
      have s13 : Same H1 H3 := s2.trans s3
      have ls : ((allF es x).filter slotB).length ≤ 1000 := Nat.le_trans (List.length_filter_le _ _) few
      refine ⟨_, rfl, D3, rfl, ⟨zs, SqL.of hzs⟩, fun D4 hD4 => ?_⟩
      refine lc_sieve (mF K CF) mB (fun _ => true) (fun _ => true) walk_list ls (fun H4 s4 => SqL.of (s4 _ _ hzs)) hD4 ez (fun v c H2 Rq _ _ _ kk => kk _ (Same.refl _)) ?_ ?_
      · rintro v g H4 Rq mg _ s4 r kk
        obtain ⟨b, rfl, _⟩ := id r
        obtain ⟨dy, tw, hb⟩ := rd _ _ _ r
        obtain ⟨m1, m2⟩ := List.mem_filter.mp mg
        obtain ⟨tg, et, ht2⟩ := al.aim g m1 m2
        rw [et] at hb
        refine ⟨_, rfl, b, CF, dy, _, _, rfl, hb, CFc.cl, CFc.no _ (by simp), (lk_fs _ _ _ _ _).2.2.1, rfl, _, rfl, ?_⟩
        rw [show decide (tv (some tg) = V.str "any") = decide (tg = ("any" : Str)) from dec_s]
        by_cases ea : tg = ("any" : Str)
        · rw [decide_eq_true ea]
          exact iteT (kk _ _ (Same.refl _) rfl)
        · rw [decide_eq_false ea]
          refine iteF ⟨_, rfl, b, CF, dy, _, _, rfl, hb, CFc.cl, CFc.no _ (by simp), (lk_fs _ _ _ _ _).2.2.1, _, rfl, t, names.map V.str, rfl, .inr ((s1.trans (s13.trans s4)).sqT ht), rfl, flat_strs _, ?_⟩
          show Rq (.bl (inV (.str tg) _)) H4
          rw [mem_in, decide_eq_true (ht2.resolve_left ea)]
          exact kk _ _ (Same.refl _) rfl
      intro H4 bs s4 hbs eb
      rw [filter_all] at eb
      have ebs := ev_bools_eq eb
      subst ebs
      have hall : (((allF es x).filter slotB).map fun _ => true).all id = true := by
        rw [List.all_map, List.all_eq_true]
        intro _ _
        rfl
      refine ⟨D4, _, rfl, SqL.of hbs, _, rfl, ?_⟩
      rw [hall]
      refine iteF ?_
      have s04 : Same H0 H4 := s1.trans (s13.trans s4)
      refine ⟨_, rfl, a, CK, dx, _, _, rfl, s04 _ _ ha, C.cl, C.no _ (by simp), (lk_ks _ _ _ _ _ _ _).2.2.2.2.2.1, ?_⟩
      cases e : x.k with
      | none => exact ⟨_, rfl, iteT (k _ s04)⟩
      | some kn =>
        obtain ⟨k1, k2⟩ := al.key kn e
        have nos : (allF es x).filter slotB = [] := List.filter_eq_nil_iff.mpr fun g hg => by rw [k1 g hg]; exact Bool.false_ne_true
        have zn : zs = [] := List.eq_nil_of_length_eq_zero (by rw [ez.1, nos]; rfl)
        have ha4 := s04 _ _ ha
        rw [e] at ha4
        refine ⟨_, rfl, iteF ⟨_, rfl, false, .inl ⟨zs, SqL.of (s4 _ _ hzs), by rw [zn]; rfl⟩, _, rfl, iteT ?_⟩⟩
        refine ⟨_, rfl, a, CK, dx, _, _, rfl, ha4, C.cl, C.no _ (by simp), (lk_ks _ _ _ _ _ _ _).2.2.2.2.2.1, _, rfl, t2, rfl, ⟨us, (s13.trans s4).sqT hus⟩, fun D5 hD5 => ?_⟩
        refine lc_sieve (mF K CF) mW (fun _ => true) (fun g => g.n) walk_tup few (fun H5 s5 => s5.sqT ((s13.trans s4).sqT hus)) hD5 (evu.same (mF K CF) (s13.trans s4)) (fun v c H2 Rq _ _ _ kk => kk _ (Same.refl _)) ?_ ?_
        · rintro v c H5 Rq _ _ _ r kk
          obtain ⟨b, rfl, _⟩ := id r
          obtain ⟨dy, tw, hb⟩ := rd _ _ _ r
          exact ⟨_, rfl, b, CF, dy, _, _, rfl, hb, CFc.cl, CFc.no _ (by simp), (lk_fs _ _ _ _ _).2.2.2.2, kk _ _ (Same.refl _) rfl⟩
        intro H5 ws s5 hws ew
        rw [filter_all] at ew
        have ews := ev_words_eq ew
        subst ews
        refine ⟨D5, _, rfl, .inl (SqL.of hws), rfl, flat_strs _, ?_⟩
        show Q (.bl (inV (.str kn) _)) H5
        rw [mem_in, decide_eq_true k2]
        exact k _ (s04.trans s5)
end
end Wh
set_option Elab.async false
set_option linter.all false
set_option maxRecDepth 100000
set_option maxHeartbeats 4000000
namespace Wh
open PySem PySem.Spec PyProof.Rows L2
open Wp hiding Same.refl Same.trans same_new boot_all
open W8 (Ev Rp Kp Mono same_new take_snoc rW rB mW mB ev_words ev_words_eq ev_bools_eq lc_sieve)
/-- the comprehension in a comprehension -/
theorem blkOk_in {N : List Str} {scope inner : Scope} {env : Env} {own : List (Str × Nat)} (sc : Scope) (e : env.scope = sc) (h : blkC N (relS scope sc) inner own = true) : BlkOk N (relabel scope env) inner own := by
  subst e
  exact blkOk_by h
/-- a method that is known -/
structure KMt (P : Program) (w : World) (K : PySem.W.Frag) (mg : Str → Option Value) (base : Heap) (C : Addr) (CX : CXT) (k : Nat) (x : Str) (ps : List Str) (sp : Sp) (f : Addr) (fd : FuncData) : Prop where
  ok : FnOk P w K mg base CX k f fd ps sp
  mt : Meth K C x f
  bi : Binds K fd ps []
abbrev houseAt : List Str := ["root", "names", "_kinds", "_by_name", "_fields", "_leads", "_far"]
/-! ## whom a slot lets in -/
def baseOf (ks : List KD) (n : Str) : Option Str := (ks.find? fun e => decide (e.n = n)).bind (·.b)
def letB (ks : List KD) (t n : Str) : Bool := decide (t = ("any" : Str)) || decide (t = n) || decide (some t = baseOf ks n)
def aims (gs : List FV) : List Str := (gs.filter slotB).map fun g => g.t.getD ""
def ledBy (ks : List KD) (x : KD) : List Str := (ks.map (·.n)).filter fun o => ((aims (allF ks x)).map fun t => letB ks t o).any id
/-- the slots of a kind have aims -/
def Aimed (ks : List KD) : Prop := ∀ x ∈ ks, ∀ g ∈ allF ks x, slotB g = true → ∃ t, g.t = some t
section
variable {P : Program} {w : World} {K : PySem.W.Frag} {mg : Str → Option Value} {base : Heap} {CF CK CH : Addr}
abbrev sLt : Stmt := meth 32 7
abbrev nLt : List Str := ["self", "target", "name"]
def spLt (K : PySem.W.Frag) (CF CK CH : Addr) : Sp := fun vs H Q _ => ∃ (s : Addr) (t n : Str) (dx d : Addr) (fs : List (Str × V)) (ks : List KD), vs = [.ref s, .str t, .str n] ∧ H s = some (.ins CH dx fs) ∧ List.lookup ("_by_name" : Str) fs = some (.ref d) ∧
  Dc (rK K CF CK) H d (ks.map (·.n)) ks ∧ (ks.map (·.n)).Nodup ∧ n ∈ ks.map (·.n) ∧ Q (.bl (letB ks t n)) H
theorem scLt : FnScope nLt nLt (defScope sLt) := ⟨rfl, rfl, rfl, by decide +kernel, rfl, by decide +kernel, by decide +kernel⟩
theorem at_name {ks : List KD} (nd : (ks.map (·.n)).Nodup) {i : Nat} {n : Str} {z : KD} (h1 : (ks.map (·.n))[i]? = some n) (h2 : ks[i]? = some z) : z.n = n ∧ (ks.find? fun e => decide (e.n = n)) = some z := by
  rw [List.getElem?_map, h2] at h1
  have e : z.n = n := Option.some.inj h1
  have q := find_at nd h2
  rw [e] at q
  exact ⟨e, q⟩
theorem ok_lt {f : Addr} {fd : FuncData} (F : Fun K "_lets" "House._lets" sLt f fd) (C : PlainC K CK ["name", "fields", "base", "frozen", "heirs", "key", "registered"]) (HC : PlainC K CH houseAt)
    (gA : ∃ u, mg "ANY" = some u ∧ RelV (.str "any") u) : FnOk P w K mg base CX0 1 f fd nLt (spLt K CF CK CH) := by
  refine F.ok scLt (fun vs H Q E h => ?_) (fun cdv A outer s H vs Q E hr h => ?_)
  · obtain ⟨v, t, n, dx, d, fs, ks, rfl, _⟩ := h
    rfl
  · obtain ⟨v, t, n, dx, d, fs, ks, rfl, hs, hl, hd, nd, mn, k⟩ := h
    have hu := hu_of hr
    refine ⟨_, 
      (pss_one (ps_ret (pe_or (pe_cmpR op_eq (pv 1) (pe_cn (by rfl) gA) (nomark _)) (pe_or (pe_cmpR op_eq (pv 1) (pv 2) (nomark _)) (pe_one (pe_cmpR op_eq (pv 1) (pe_fld (pe_dget hu (pe_fld (pv 0) rfl) (pv 2) (fun _ _ => rfl)) rfl) (nomark _))))))), ?_⟩
    obtain ⟨i, u, z, hn, hz, ⟨a2, dx2, tf2, rfl, ha2, us2, hf2, ev2⟩, g⟩ := hd.get mn
    obtain ⟨ez, fz⟩ := at_name nd hn hz
    have eb : baseOf ks n = z.b := by
      unfold baseOf
      rw [fz]
      rfl
    refine ⟨_, rfl, rfl, _, rfl, ?_⟩
    rw [dec_s]
    unfold letB at k
    by_cases e1 : t = ("any" : Str)
    · rw [decide_eq_true e1] at k ⊢
      exact iteT k
    · rw [decide_eq_false e1] at k ⊢
      refine iteF ⟨_, rfl, _, rfl, rfl, _, rfl, ?_⟩
      rw [dec_s]
      by_cases e2 : t = n
      · rw [decide_eq_true e2] at k ⊢
        exact iteT k
      · rw [decide_eq_false e2] at k ⊢
        refine iteF ⟨_, rfl, _, rfl, v, CH, dx, _, _, rfl, hs, HC.cl, HC.no _ (by simp), hl, _, rfl, d, _, rfl, g, a2, CK, dx2, _, _, rfl, ha2, C.cl, C.no _ (by simp), (lk_ks _ _ _ _ _ _ _).2.2.1, ?_, ?_⟩
        · cases z.b <;> rfl
        · rw [eb] at k
          have q : decide (V.str t = tv z.b) = decide (some t = z.b) := by
            cases z.b with
            | none => rfl
            | some b =>
              show decide (V.str t = V.str b) = _
              simp
          rw [q]
          simpa using k
abbrev sLd : Stmt := meth 32 6
abbrev nLd : List Str := ["self", "name", "targets", "field", "other", "target"]
def spLd (K : PySem.W.Frag) (CF CK CH : Addr) : Sp := fun vs H Q _ => ∃ (s : Addr) (n : Str) (dx d df tn : Addr) (fs : List (Str × V)) (ks : List KD) (x : KD), vs = [.ref s, .str n] ∧ H s = some (.ins CH dx fs) ∧ List.lookup ("_lets" : Str) fs = none ∧ List.lookup ("_by_name" : Str) fs = some (.ref d) ∧ List.lookup ("_fields" : Str) fs = some (.ref df) ∧ List.lookup ("names" : Str) fs = some (.ref tn) ∧
  Dc (rK K CF CK) H d (ks.map (·.n)) ks ∧ (ks.map (·.n)).Nodup ∧ Dc (rTF K CF) H df (ks.map (·.n)) (ks.map (allF ks)) ∧ SqT K H tn ((ks.map (·.n)).map V.str) ∧ x ∈ ks ∧ x.n = n ∧ Aimed ks ∧ (∀ y ∈ ks, (allF ks y).length ≤ 10) ∧ ks.length ≤ 12 ∧
  ∀ (D : Addr) H', Same H H' → H' D = some (.lst ((ledBy ks x).map V.str)) → Q (.ref D) H'
theorem scLd : FnScope nLd ["self", "name"] (defScope sLd) := ⟨rfl, rfl, rfl, by decide +kernel, rfl, by decide +kernel, by decide +kernel⟩
theorem ok_ld {f f1 : Addr} {fd fd1 : FuncData} (F : Fun K "_leads_from" "House._leads_from" sLd f fd) (B : Bn mg) (an : mg "any" = none) (CFc : PlainC K CF ["name", "mode", "target", "default", "was"]) (HC : PlainC K CH houseAt)
    (LT : KMt P w K mg base CH CX0 1 "_lets" nLt (spLt K CF CK CH) f1 fd1) : FnOk P w K mg base CX0 2 f fd ["self", "name"] (spLd K CF CK CH) := by
  refine F.ok scLd (fun vs H Q E h => ?_) (fun cdv A outer s H vs Q E hr h => ?_)
  · obtain ⟨v, n, dx, d, df, tn, fs, ks, x, rfl, _⟩ := h
    rfl
  · obtain ⟨v, _, dx, d, df, tn, fs, ks, x, rfl, hs, l0, l1, l2, l3, hd, nd, hf, hn, mx, rfl, am, f10, k12, k⟩ := h
    have hu := hu_of hr
    refine ⟨_, 
      (pss_cons (ps_set (i := 2) scLd.nd rfl (.inr rfl) (pe_lc (own := [("field", 3)]) (g := gName 3) (te := tFld K (tVar 3) "target") (tt := tTest (tOp rNe (tFld K (tVar 3) "mode") (tC (.str "mark")))) rfl scLd.nd (pi_tup (pe_dget hu (pe_fld (pv 0) rfl) (pv 1) (fun _ _ => rfl))) (blkOk_by (N := nLd) (sc := defScope sLd) (by decide +kernel)) (fun _ _ _ _ _ => pg_name (i := 3) scLd.nd rfl (Or.inl rfl)) (fun _ _ _ _ _ => pts_one (pt_cmpR op_ne (pe_fld (pv 3) rfl) pe_str (nomark _))) (fun _ _ _ _ _ => (pe_fld (pv 3) rfl))))
      (pss_one (ps_ret (pe_lc (own := [("other", 4)]) (g := gName 4) (te := tVar 4) (tt := tB (tCB (rAny K) (tCons (tLc (iList K (tVar 2)) (gName 5) tYes (tMeth CH "_lets" (spLt K CF CK CH) [] E0 (tVar 0) (tCons (tVar 5) (tCons (tVar 4) tNil))) [5]) tNil))) rfl scLd.nd (pi_tup (pe_fld (pv 0) rfl)) (blkOk_by (N := nLd) (sc := defScope sLd) (by decide +kernel)) (fun _ _ _ _ _ => pg_name (i := 4) scLd.nd rfl (Or.inr rfl)) (fun _ _ _ _ _ => pts_one (pt_val (pe_callB (cr_any rfl) (by rfl) an boot_any (pa_cons (pe_lc (own := [("target", 5)]) (g := gName 5) (tt := tYes) (te := tMeth CH "_lets" (spLt K CF CK CH) [] E0 (tVar 0) (tCons (tVar 5) (tCons (tVar 4) tNil))) rfl scLd.nd (pi_list (pv 2)) (by exact blkOk_in (N := nLd) (defScope sLd) rfl (by decide +kernel)) (fun _ _ _ _ _ => pg_name (i := 5) scLd.nd rfl (Or.inl rfl)) (fun _ _ _ _ _ => pts_nil) (fun _ _ _ _ _ => (pe_meth (pv 0) HC.cl LT.mt LT.ok (hr.mono (by decide)) LT.bi .nil pass0 (pa_cons (pv 5) (pa_cons (pv 4) pa_nil))))) pa_nil)))) (fun _ _ _ _ _ => (pv 4)))))), ?_⟩
    obtain ⟨i, u, gs, hi, hz, ⟨t, rfl, us, hus, evu⟩, g⟩ := hf.get (List.mem_map_of_mem mx)
    have egs : gs = allF ks x := by
      obtain ⟨j, hj, ej⟩ := List.getElem_of_mem mx
      have q : (ks.map (·.n))[j]? = some x.n := by rw [List.getElem?_map, List.getElem?_eq_getElem hj, ej]; rfl
      have q2 : i < (ks.map (·.n)).length := (List.getElem?_eq_some_iff.mp hi).1
      have := (List.getElem?_inj (i := i) (j := j) q2 nd).mp (hi.trans q.symm)
      subst this
      rw [List.getElem?_map, List.getElem?_eq_getElem hj, ej] at hz
      exact (Option.some.inj hz).symm
    subst egs
    have few : (allF ks x).length ≤ 1000 := Nat.le_trans (f10 x mx) (by decide)
    refine ⟨_, rfl, v, CH, dx, _, _, rfl, hs, HC.cl, HC.no _ (by simp), l2, _, rfl, df, _, rfl, g, t, rfl, ⟨us, hus⟩, fun D hD => ?_⟩
    have rd : ∀ (H2 : Hp) (b : Addr) (g : FV), rF K CF H2 (.ref b) g → ∃ dy tw, H2 b = some (.ins CF dy (fsF (.str g.n) (.str g.m) (tv g.t) (.int g.d) tw)) := by
      rintro H2 b g ⟨b2, e2, ⟨dy, tw, hb, _⟩, _⟩
      cases e2
      exact ⟨dy, tw, hb⟩
    refine lc_sieve (mF K CF) mW slotB (fun g => g.t.getD "") walk_tup few (fun H2 s2 => s2.sqT hus) hD evu ?_ ?_ ?_
    · rintro v c H3 Rq _ s3 r kk
      obtain ⟨b, rfl, _⟩ := id r
      obtain ⟨dy, tw, hb⟩ := rd _ _ _ r
      refine ⟨_, rfl, b, CF, dy, _, _, rfl, hb, CFc.cl, CFc.no _ (by simp), (lk_fs _ _ _ _ _).2.2.2.1, rfl, _, rfl, ?_⟩
      rw [dec_s]
      exact kk _ (Same.refl _)
    · rintro v c H3 Rq mc sc s3 r kk
      obtain ⟨b, rfl, _⟩ := id r
      obtain ⟨dy, tw, hb⟩ := rd _ _ _ r
      obtain ⟨tg, et⟩ := am x mx c mc sc
      refine ⟨_, rfl, b, CF, dy, _, _, rfl, hb, CFc.cl, CFc.no _ (by simp), (lk_fs _ _ _ _ _).2.2.1, kk _ _ (Same.refl _) ?_⟩
      rw [et]
      rfl
    intro H3 zs s3 hzs ez
    have ezs := ev_words_eq ez
    subst ezs
    have la : ((((allF ks x).filter slotB).map fun g => g.t.getD "")).length ≤ 1000 := by
      rw [List.length_map]
      exact Nat.le_trans (List.length_filter_le _ _) few
    refine ⟨_, rfl, v, CH, dx, _, _, rfl, s3 _ _ hs, HC.cl, HC.no _ (by simp), l3, tn, rfl, ⟨_, s3.sqT hn⟩, fun D2 hD2 => ?_⟩
    refine lc_sieve mW mW (fun o => ((aims (allF ks x)).map fun t => letB ks t o).any id) id (walk_tup (xs := (ks.map (fun z => KD.n z)).map V.str)) (by rw [List.length_map]; omega) (fun H4 s4 => s4.sqT (s3.sqT hn)) hD2 (ev_words (ks.map (fun z => KD.n z))) ?_ ?_ ?_
    · rintro _ o H4 Rq mo s4 rfl kk
      have s34 : Same H H4 := s3.trans s4
      refine ⟨_, rfl, D, rfl, ⟨_, SqL.of (s4 _ _ hzs)⟩, fun D3 hD3 => ?_⟩
      refine lc_sieve mW mB (fun _ => true) (fun t => letB ks t o) walk_list la (fun H5 s5 => SqL.of (s5 _ _ (s4 _ _ hzs))) hD3 (ev_words _) (fun v c H2 Rq _ _ _ kk => kk _ (Same.refl _)) ?_ ?_
      · rintro _ t2 H5 Rq2 _ _ s5 rfl kk2
        exact ⟨_, rfl, v, dx, fs, rfl, (s34.trans s5) _ _ hs, l0, _, rfl, _, rfl, v, t2, o, dx, d, fs, ks, rfl, (s34.trans s5) _ _ hs, l1, hd.same (dK K CF CK) (s34.trans s5), nd, mo, kk2 _ _ (Same.refl _) rfl⟩
      · intro H5 bs s5 hbs eb
        rw [filter_all] at eb
        have ebs := ev_bools_eq eb
        subst ebs
        exact ⟨D3, _, rfl, SqL.of hbs, _, rfl, kk _ s5⟩
    · rintro v c H5 Rq _ _ _ r kk
      exact ⟨_, rfl, kk _ _ (Same.refl _) r⟩
    · intro H4 ys s4 hys ey
      rw [List.map_id] at ey
      have eys := ev_words_eq ey
      subst eys
      exact k D2 H4 (s3.trans s4) hys
end
end Wh
set_option Elab.async false
set_option linter.all false
set_option maxRecDepth 100000
set_option maxHeartbeats 4000000
namespace Wh
open PySem PySem.Spec PyProof.Rows L2
open Wp hiding Same.refl Same.trans same_new boot_all
open W8 (Ev Rp Kp Mono same_new take_snoc rW rB mW mB ev_words ev_words_eq ev_bools_eq lc_sieve)
/-! ## what is reached from a kind -/
inductive Rch (L : Str → List Str) (n : Str) : Str → Prop
  | one {m : Str} (h : m ∈ L n) : Rch L n m
  | more {m k : Str} (h : Rch L n m) (h2 : k ∈ L m) : Rch L n k
open Classical in
noncomputable def farOf (ns : List Str) (L : Str → List Str) (n : Str) : List Str := ns.filter fun o => decide (Rch L n o)
def rL : Rp (List Str) := fun H v xs => ∃ l, v = .ref l ∧ H l = some (.lst (xs.map V.str))
theorem dL : MonoD rL := fun _ _ _ _ s ⟨l, e, h⟩ => ⟨l, e, s _ _ (fun _ z => by cases z) h⟩
/-- leads among names -/
structure Leads (ns : List Str) (L : Str → List Str) : Prop where
  nd : ns.Nodup
  few : ns.length ≤ 12
  sub : ∀ n ∈ ns, ∀ m ∈ L n, m ∈ ns
  ln : ∀ n ∈ ns, (L n).Nodup
theorem nodup_le {xs ys : List Str} (h : xs.Nodup) (s : ∀ x ∈ xs, x ∈ ys) : xs.length ≤ ys.length := by
  induction xs generalizing ys with
  | nil => exact Nat.zero_le _
  | cons x xs ih =>
    rw [List.nodup_cons] at h
    have mx : x ∈ ys := s x (List.mem_cons_self ..)
    have q := ih (ys := ys.erase x) h.2 fun y my => (List.mem_erase_of_ne fun e => h.1 (by rw [← e]; exact my)).mpr (s y (List.mem_cons_of_mem _ my))
    rw [List.length_erase_of_mem mx] at q
    have := List.length_pos_of_mem mx
    show xs.length + 1 ≤ ys.length
    omega
theorem Rch.mem {ns : List Str} {L : Str → List Str} (l : Leads ns L) {n m : Str} (hn : n ∈ ns) (h : Rch L n m) : m ∈ ns := by
  induction h with
  | one h => exact l.sub n hn _ h
  | more _ h2 ih => exact l.sub _ ih _ h2
open Classical in
theorem far_of {ns : List Str} {L : Str → List Str} {n : Str} {fs : List Str} (h1 : ∀ m ∈ fs, Rch L n m) (h2 : ∀ m ∈ L n, m ∈ fs) (h3 : ∀ m ∈ fs, ∀ y ∈ L m, y ∈ fs) : (ns.filter fun o => decide (o ∈ fs)) = farOf ns L n := by
  unfold farOf
  congr 1
  funext o
  rw [Bool.eq_iff_iff, decide_eq_true_eq, decide_eq_true_eq]
  refine ⟨h1 o, fun h => ?_⟩
  induction h with
  | one h => exact h2 _ h
  | more _ h ih => exact h3 _ ih _ h
theorem dget_same {H H' : Hp} {a : Addr} {y : V} {r : Option V} (h : DGet H a y r) (s : Same H H') : DGet H' a y r := by
  rcases h with ⟨kvs, k, h, e, er⟩ | ⟨kvs, k, b, h, e, eb, er⟩
  · exact .inl ⟨kvs, k, h.imp (s _ _) fun ⟨od, h⟩ => ⟨od, s _ _ h⟩, e, er⟩
  · exact .inr ⟨kvs, k, b, h.imp (s _ _) fun ⟨od, h⟩ => ⟨od, s _ _ h⟩, e, s _ _ eb, er⟩
theorem walk_keysD {d : Addr} {o : Obj} {ns : List Str} {xs : List V} (l : xs.length = ns.length) : Walk (Itk d o (kvz ns xs)) (ns.map V.str).length (fun H => H d = some (.frz o (.dK (kvz ns xs)))) (YAt (ns.map V.str)) := by
  have e : (ns.map V.str).length = (kvz ns xs).length := by rw [kvz_length _ _ l, List.length_map]
  rw [e]
  refine walk_keys.mono (fun _ h => h) ?_
  rintro i H x H' hi _ ⟨rfl, k, v, hk, rfl⟩
  refine ⟨rfl, ?_⟩
  unfold kvz at hk
  rw [List.getElem?_zipWith] at hk
  rw [List.getElem?_map]
  cases h1 : ns[i]? with
  | none => rw [h1] at hk; cases hk
  | some m =>
    rw [h1] at hk
    cases h2 : xs[i]? with
    | none => rw [h2] at hk; cases hk
    | some y =>
      rw [h2] at hk
      have := Option.some.inj hk
      unfold kv2 at this
      cases this
      rfl
/-- the names found so far, the first a of them followed -/
structure Fnd (L : Str → List Str) (n : Str) (a : Nat) (fs : List Str) : Prop where
  nd : fs.Nodup
  r : ∀ m ∈ fs, Rch L n m
  h : ∀ m ∈ L n, m ∈ fs
  c : ∀ i, i < a → ∀ m, fs[i]? = some m → ∀ y ∈ L m, y ∈ fs
  le : a ≤ fs.length
section
variable {P : Program} {w : World} {K : PySem.W.Frag} {mg : Str → Option Value} {base : Heap} {CF CK CH : Addr}
abbrev sFar : Stmt := top 31
abbrev nFar : List Str := ["name", "leads", "found", "at", "further", "other"]
def spFar (K : PySem.W.Frag) : Sp := fun vs H Q _ => ∃ (n : Str) (d : Addr) (ns : List Str) (L : Str → List Str), vs = [.str n, .ref d] ∧ Dc rL H d ns (ns.map L) ∧ Leads ns L ∧ n ∈ ns ∧
  ∀ (D : Addr) H', Same H H' → H' D = some (.lst ((farOf ns L n).map V.str)) → Q (.ref D) H'
theorem scFar : FnScope nFar ["name", "leads"] (defScope sFar) := ⟨rfl, rfl, rfl, by decide +kernel, rfl, by decide +kernel, by decide +kernel⟩
theorem ok_far {f : Addr} {fd : FuncData} (F : Fun K "_far_from" "_far_from" sFar f fd) (B : Bn mg) : FnOk P w K mg base CX0 1 f fd ["name", "leads"] (spFar K) := by
  refine F.ok scFar (fun vs H Q E h => ?_) (fun cdv A outer s H vs Q E hr h => ?_)
  · obtain ⟨n, d, ns, L, rfl, _⟩ := h
    rfl
  · obtain ⟨n, d, ns, L, rfl, hd, ld, mn, k⟩ := h
    have hu := hu_of hr
    refine ⟨_, 
      (pss_cons (ps_set (i := 2) scFar.nd rfl (.inr rfl) (pe_callTy call_list_of (by rfl) B.list PyProof.Rows.boot_list (pa_cons (pe_dget hu (pv 1) (pv 0) (fun _ _ => rfl)) pa_nil)))
      (pss_cons (ps_set (i := 3) scFar.nd rfl (.inl rfl) pe_int)
      (pss_cut (ps_while PassesOwn.never (pt_cmpR op_lt (pv 3) (pe_callB call_len_seq (by rfl) B.len PySem.boot_len (pa_cons (pv 2) pa_nil)) (nomark _)) 
        (pss_cons (ps_for PassesOwn.never rfl (pi_list (pe_dget hu (pv 1) (pe_ix ix_list (pv 2) (pv 3) (fun _ _ => rfl)) (fun _ _ => rfl))) (pg_name (i := 4) scFar.nd rfl (Or.inl rfl)) 
          (pss_one (ps_if (pt_cmpR op_notIn_seq (pv 4) (pv 2) (by rfl)) 
            (pss_one (ps_expr (pe_bm PySem.F.plainAttrs_list PySem.F.slot_list_append PySem.F.type_list_append mt_append (pv 2) (pa_cons (pv 4) pa_nil)))) pss_nil)))
        (pss_one (ps_aug (i := 3) scFar.nd rfl (.inl rfl) pe_int ip_add))))
      (pss_one (ps_ret (pe_lock (pe_lc (own := [("other", 5)]) (g := gName 5) (te := tVar 5) (tt := tTest (tOp (rIn K false) (tVar 5) (tVar 2))) rfl scFar.nd (pi_keys (pv 1)) (blkOk_by (N := nFar) (sc := defScope sFar) (by decide +kernel)) (fun _ _ _ _ _ => pg_name (i := 5) scFar.nd rfl (Or.inl rfl)) (fun _ _ _ _ _ => pts_one (pt_cmpR (show OpR _ (compareOp .In) (rIn K false) from op_in_seq) (pv 5) (pv 2) (by rfl))) (fun _ _ _ _ _ => (pv 5))))))))), ?_⟩
    obtain ⟨i0, _, _, hn0, hz0, ⟨l0, rfl, h0⟩, g⟩ := hd.get mn
    rw [List.getElem?_map, hn0] at hz0
    obtain rfl := Option.some.inj hz0
    refine ⟨_, rfl, _, rfl, d, _, rfl, g, l0, _, rfl, .inl (SqL.of h0), fun Fd hF => ?_⟩
    have sF : Same H (upd H Fd (.lst ((L n).map V.str))) := same_new hF
    have len : ∀ {a : Nat} {fs : List Str}, Fnd L n a fs → fs.length ≤ ns.length := fun q => nodup_le q.nd fun m hm => (q.r m hm).mem ld mn
    refine ⟨fun σ H' => ∃ (a : Nat) (v4 : Option V) (fs : List Str), σ = [some (.str n), some (.ref d), some (.ref Fd), some (.int (a : Nat)), v4, none] ∧ Same H H' ∧ H' Fd = some (.lst (fs.map V.str)) ∧ Fnd L n a fs ∧ fs.length ≤ a, ?_, ?_⟩
    · refine ⟨fun m σ H' => ∃ (a : Nat) (v4 : Option V) (fs : List Str), m = ns.length - a ∧ σ = [some (.str n), some (.ref d), some (.ref Fd), some (.int (a : Nat)), v4, none] ∧ Same H H' ∧ H' Fd = some (.lst (fs.map V.str)) ∧ Fnd L n a fs,
        ⟨_, 0, none, L n, rfl, rfl, sF, upd_same, ⟨ld.ln n mn, fun m hm => .one hm, fun m hm => hm, fun i hi => absurd hi (Nat.not_lt_zero _), Nat.zero_le _⟩⟩, ?_⟩
      rintro _ _ H1 ⟨a, v4, fs, rfl, rfl, s1, hf1, q⟩
      have lf := len q
      refine ⟨_, rfl, _, rfl, Fd, _, rfl, .inl (SqL.of hf1), _, _, rfl, rfl, _, rfl, ?_⟩
      rw [List.length_map]
      by_cases hlt : a < fs.length
      · rw [decide_eq_true (by omega)]
        obtain ⟨m, hm⟩ : ∃ m, fs[a]? = some m := ⟨_, List.getElem?_eq_getElem hlt⟩
        have mfs : m ∈ fs := List.mem_of_getElem? hm
        have mns : m ∈ ns := (q.r m mfs).mem ld mn
        obtain ⟨i1, _, _, hn1, hz1, ⟨l1, rfl, h01⟩, g01⟩ := hd.get mns
        rw [List.getElem?_map, hn1] at hz1
        obtain rfl := Option.some.inj hz1
        have ne1 : l1 ≠ Fd := ne_of_none h01 hF
        have h1 := s1 _ _ h01
        have g1 := dget_same g01 s1
        refine iteT ⟨fun σ H' => ∃ (v4 : Option V) (fs2 : List Str), σ = [some (.str n), some (.ref d), some (.ref Fd), some (.int ((a + 1 : Nat) : Int)), v4, none] ∧ Same H H' ∧ H' Fd = some (.lst (fs2.map V.str)) ∧ Fnd L n (a + 1) fs2, ?_, ?_⟩
        · rintro σ H' ⟨v4, fs2, rfl, s2, hf2, q2⟩
          have := len q2
          have := q2.le
          exact ⟨ns.length - (a + 1), by omega, a + 1, v4, fs2, rfl, rfl, s2, hf2, q2⟩
        · refine ⟨_, rfl, _, rfl, _, rfl, Fd, _, _, .str m, rfl, rfl, SqL.of hf1, ?_, d, _, rfl, g1, l1, rfl, ⟨_, SqL.of h1⟩, ?_⟩
          · exact atI_nat (by rw [List.getElem?_map, hm]; rfl)
          refine for_it (walk_list (xs := (L m).map V.str)) (fun j σ H' => ∃ (v4 : Option V) (fs2 : List Str), σ = [some (.str n), some (.ref d), some (.ref Fd), some (.int (a : Nat)), v4, none] ∧ Same H H' ∧ H' Fd = some (.lst (fs2.map V.str)) ∧
            fs2.Nodup ∧ (∀ m ∈ fs2, Rch L n m) ∧ (∃ tl, fs2 = fs ++ tl) ∧ ∀ y ∈ (L m).take j, y ∈ fs2)
            ⟨v4, fs, rfl, s1, hf1, q.nd, q.r, ⟨[], by simp⟩, by simp⟩ (fun i σ H' _ ⟨_, _, _, s, _⟩ => SqL.of (s _ _ h01)) ?_ ?_
          · rintro j x σ H2 H3 hj ⟨v4, fs2, rfl, s2, hf2, nd2, r2, ⟨tl, e2⟩, t2⟩ ⟨rfl, hx⟩
            rw [List.getElem?_map] at hx
            obtain ⟨y, hy, rfl⟩ := Option.map_eq_some_iff.mp hx
            refine ⟨_, rfl, _, rfl, Fd, _, rfl, .inl (SqL.of hf2), rfl, flat_strs _, _, rfl, ?_⟩
            have tk : (L m).take (j + 1) = (L m).take j ++ [y] := take_snoc hy
            rw [show inV (.str y) (fs2.map V.str) = decide (y ∈ fs2) from mem_in]
            have l2 : fs2.length ≤ ns.length := nodup_le nd2 fun m hm => (r2 m hm).mem ld mn
            by_cases hin : y ∈ fs2
            · rw [decide_eq_true hin]
              refine iteF ⟨_, fs2, rfl, s2, hf2, nd2, r2, ⟨tl, e2⟩, fun z hz => ?_⟩
              rw [tk, List.mem_append] at hz
              rcases hz with hz | hz
              · exact t2 z hz
              · rw [List.mem_singleton.mp hz]; exact hin
            · rw [decide_eq_false hin]
              refine iteT ⟨_, rfl, ?_, _, rfl, Fd, _, _, rfl, rfl, hf2, ?_, ?_⟩
              · exact .inl ⟨rfl, _, SqL.of hf2⟩
              · rw [List.length_map, sizeLine_eq]
                have := ld.few
                omega
              · have yr : Rch L n y := .more (q.r m mfs) (List.mem_of_getElem? hy)
                refine ⟨_, fs2 ++ [y], rfl, s2.over hF, by rw [upd_same, List.map_append]; rfl, ?_, ?_, ⟨tl ++ [y], by rw [e2, List.append_assoc]⟩, ?_⟩
                · rw [List.nodup_append]
                  refine ⟨nd2, by simp, fun z hz u hu e => hin ?_⟩
                  rw [List.mem_singleton.mp hu] at e
                  exact e ▸ hz
                · intro z hz
                  rcases List.mem_append.mp hz with hz | hz
                  · exact r2 z hz
                  · rw [List.mem_singleton.mp hz]; exact yr
                · intro z hz
                  rw [tk, List.mem_append] at hz
                  exact List.mem_append.mpr (hz.imp (t2 z) id)
          · rintro σ H2 ⟨v4, fs2, rfl, s2, hf2, nd2, r2, ⟨tl, e2⟩, t2⟩
            refine ⟨_, rfl, _, _, rfl, rfl, _, fs2, rfl, s2, hf2, nd2, r2, fun z hz => ?_, fun i hi z hz y hy => ?_, ?_⟩
            · rw [e2]
              exact List.mem_append_left _ (q.h z hz)
            · by_cases hia : i < a
              · have lt : i < fs.length := by omega
                rw [e2, List.getElem?_append_left lt] at hz
                rw [e2]
                exact List.mem_append_left _ (q.c i hia z hz y hy)
              · have ei : i = a := by omega
                subst ei
                rw [e2, List.getElem?_append_left hlt, hm] at hz
                cases hz
                have := t2 y
                rw [List.length_map, List.take_length] at this
                exact this hy
            · rw [e2, List.length_append]
              omega
      · rw [decide_eq_false (by omega)]
        exact ⟨a, v4, fs, rfl, s1, hf1, q, by omega⟩
    · rintro _ H1 ⟨a, v4, fs, rfl, s1, hf1, q, la⟩
      obtain ⟨xs, hdd, lx, _⟩ := (hd.same dL s1)
      have nf : Fd ≠ d := fun e => by rw [e, hdd] at hf1; cases hf1
      have ecl : ∀ m ∈ fs, ∀ y ∈ L m, y ∈ fs := fun m hm y hy => by
        obtain ⟨i, hi, e⟩ := List.getElem_of_mem hm
        exact q.c i (by omega) m (by rw [List.getElem?_eq_getElem hi, e]) y hy
      refine ⟨d, _, hdd, trivial, fun od => ⟨_, rfl, d, od, rfl, .inl ⟨kvz ns xs, upd_same, fun D hD => ?_⟩⟩⟩
      have few : ns.length ≤ 1000 := Nat.le_trans ld.few (by decide)
      refine lc_sieve mW mW (fun o => decide (o ∈ fs)) id (walk_keysD lx) few (fun H' s => s _ _ upd_same) hD (ev_words ns) ?_ ?_ ?_
      · rintro _ o H2 Rq _ s2 rfl kk
        refine ⟨_, rfl, _, rfl, Fd, _, rfl, .inl (SqL.of (s2 _ _ (by rw [upd_ne nf]; exact hf1))), rfl, flat_strs _, _, rfl, ?_⟩
        rw [show inV (.str o) (fs.map V.str) = decide (o ∈ fs) from mem_in]
        exact kk _ (Same.refl _)
      · rintro v c H2 Rq _ _ _ r kk
        exact ⟨_, rfl, kk _ _ (Same.refl _) r⟩
      · intro H2 ys s2 hys ey
        rw [List.map_id, far_of q.r q.h ecl] at ey
        have eys := ev_words_eq ey
        subst eys
        have nD : D ≠ d := fun e => by rw [e, upd_same] at hD; cases hD
        refine ⟨s2 _ _ upd_same, k D _ (fun b o e => ?_) (by rw [upd_ne nD]; exact hys)⟩
        by_cases eb : b = d
        · subst eb
          rw [upd_same]
          exact hdd.symm.trans (s1 _ _ e)
        · rw [upd_ne eb]
          exact s2 _ _ (by rw [upd_ne eb]; exact s1 _ _ e)
end
end Wh
set_option Elab.async false
set_option linter.all false
set_option maxRecDepth 100000
set_option maxHeartbeats 4000000
namespace Wh
open PySem PySem.Spec PyProof.Rows L2
open Wp hiding Same.refl Same.trans same_new boot_all
open W8 (Ev Rp Kp Mono same_new take_snoc rW rB mW mB ev_words ev_words_eq ev_bools_eq lc_sieve)
/-! ## frozen kinds -/
def heirB (ks : List KD) (n : Str) : Bool := ((ks.find? fun e => decide (e.n = n)).map (·.h)).getD false
section
variable {P : Program} {w : World} {K : PySem.W.Frag} {mg : Str → Option Value} {base : Heap} {CF CK CH : Addr}
abbrev sFz : Stmt := meth 32 8
abbrev nFz : List Str := ["self", "name", "far", "other"]
def spFz (K : PySem.W.Frag) (CF CK CH : Addr) : Sp := fun vs H Q _ => ∃ (s : Addr) (dx d dr tn : Addr) (fs : List (Str × V)) (ks : List KD) (L : Str → List Str), vs = [.ref s] ∧ H s = some (.ins CH dx fs) ∧ List.lookup ("_by_name" : Str) fs = some (.ref d) ∧ List.lookup ("_far" : Str) fs = some (.ref dr) ∧ List.lookup ("names" : Str) fs = some (.ref tn) ∧
  Dc (rK K CF CK) H d (ks.map (·.n)) ks ∧ (ks.map (·.n)).Nodup ∧ ks.length ≤ 12 ∧ Dc rL H dr (ks.map (·.n)) ((ks.map (·.n)).map L) ∧ SqT K H tn ((ks.map (·.n)).map V.str) ∧ (∀ n ∈ ks.map (·.n), (L n).length ≤ 12 ∧ ∀ m ∈ L n, m ∈ ks.map (·.n)) ∧
  (∀ x ∈ ks, x.f = true → x.n ∉ L x.n ∧ ∀ m ∈ L x.n, heirB ks m = false) ∧ ∀ H', Same H H' → Q .non H'
theorem scFz : FnScope nFz ["self"] (defScope sFz) := ⟨rfl, rfl, rfl, by decide +kernel, rfl, by decide +kernel, by decide +kernel⟩
theorem ok_fz {f : Addr} {fd : FuncData} (F : Fun K "_check_frozen" "House._check_frozen" sFz f fd) (an : mg "any" = none) (C : PlainC K CK ["name", "fields", "base", "frozen", "heirs", "key", "registered"]) (HC : PlainC K CH houseAt) : FnOk P w K mg base CX0 1 f fd ["self"] (spFz K CF CK CH) := by
  refine F.ok scFz (fun vs H Q E h => ?_) (fun cdv A outer s H vs Q E hr h => ?_)
  · obtain ⟨v, dx, d, dr, tn, fs, ks, L, rfl, _⟩ := h
    rfl
  · obtain ⟨v, dx, d, dr, tn, fs, ks, L, rfl, hs, l1, l2, l3, hd, nd, k12, hL, hn, sub, fz, k⟩ := h
    have hu := hu_of hr
    refine ⟨_, 
      (pss_one (ps_for PassesOwn.never rfl (pi_tup (pe_fld (pv 0) rfl)) (pg_name (i := 1) scFz.nd rfl (Or.inl rfl)) 
        (pss_cons (ps_set (i := 2) scFz.nd rfl (.inl rfl) (pe_dget hu (pe_fld (pv 0) rfl) (pv 1) (fun _ _ => rfl)))
        (pss_one (ps_if (PW.pt (pw_and (pt_val (pe_fld (pe_dget hu (pe_fld (pv 0) rfl) (pv 1) (fun _ _ => rfl)) rfl)) (pw_and1 (PW.pt (pw_or (pt_cmpR op_in_seq (pv 1) (pv 2) (by rfl)) (pw_or1 (pt_val (pe_callB (cr_any rfl) (by rfl) an boot_any (pa_cons (pe_lc (own := [("other", 3)]) (g := gName 3) (tt := tYes) (te := tFld K (tDGet (tFld K (tVar 0) "_by_name") (tVar 3)) "heirs") rfl scFz.nd (pi_list (pv 2)) (blkOk_by (N := nFz) (sc := defScope sFz) (by decide +kernel)) (fun _ _ _ _ _ => pg_name (i := 3) scFz.nd rfl (Or.inl rfl)) (fun _ _ _ _ _ => pts_nil) (fun _ _ _ _ _ => (pe_fld (pe_dget hu (pe_fld (pv 0) rfl) (pv 3) (fun _ _ => rfl)) rfl))) pa_nil))))))))) 
          (pss_one ps_dead) pss_nil))))), ?_⟩
    refine ⟨_, rfl, v, CH, dx, _, _, rfl, hs, HC.cl, HC.no _ (by simp), l3, tn, rfl, ⟨_, hn⟩, ?_⟩
    refine for_it (walk_tup (xs := (ks.map (fun z => KD.n z)).map V.str)) (fun j σ H' => ∃ v1 v2, σ = [some (.ref v), v1, v2, none] ∧ Same H H') ⟨none, none, rfl, Same.refl _⟩ (fun i σ H' _ ⟨_, _, _, s⟩ => s.sqT hn) ?_ ?_
    · rintro j y σ H1 H2 hj ⟨v1, v2, rfl, s1⟩ ⟨rfl, hy⟩
      rw [List.getElem?_map] at hy
      obtain ⟨n, hn1, rfl⟩ := Option.map_eq_some_iff.mp hy
      have mn : n ∈ ks.map (·.n) := List.mem_of_getElem? hn1
      obtain ⟨_, _, _, hn2, hz2, ⟨l0, rfl, h0⟩, g0⟩ := hL.get mn
      rw [List.getElem?_map, hn2] at hz2
      obtain rfl := Option.some.inj hz2
      obtain ⟨i, u, z, hn3, hz, ⟨a2, dx2, tf2, rfl, ha2, us2, hf2, ev2⟩, g⟩ := hd.get mn
      obtain ⟨ez, fe⟩ := at_name nd hn3 hz
      have mz : z ∈ ks := List.mem_of_getElem? hz
      have hs1 := s1 _ _ hs
      refine ⟨_, rfl, v, CH, dx, _, _, rfl, hs1, HC.cl, HC.no _ (by simp), l2, _, rfl, dr, _, rfl, dget_same g0 s1, ?_⟩
      refine ⟨_, rfl, v, CH, dx, _, _, rfl, hs1, HC.cl, HC.no _ (by simp), l1, _, rfl, d, _, rfl, dget_same g s1, a2, CK, dx2, _, _, rfl, s1 _ _ ha2, C.cl, C.no _ (by simp), (lk_ks _ _ _ _ _ _ _).2.2.2.1, _, rfl, ?_⟩
      cases ef : z.f with
      | false => exact iteF (iteF ⟨_, _, rfl, s1⟩)
      | true =>
        obtain ⟨f1, f2⟩ := fz z mz ef
        rw [ez] at f1 f2
        refine iteT ⟨_, rfl, _, rfl, l0, _, rfl, .inl (SqL.of (s1 _ _ h0)), rfl, flat_strs _, _, rfl, ?_⟩
        rw [show inV (.str n) ((L n).map V.str) = decide (n ∈ L n) from mem_in, decide_eq_false f1]
        refine iteF ⟨_, rfl, l0, rfl, ⟨_, SqL.of (s1 _ _ h0)⟩, fun D hD => ?_⟩
        refine lc_sieve mW mB (fun _ => true) (fun m => heirB ks m) walk_list (Nat.le_trans (sub n mn).1 (by decide)) (fun H3 s3 => SqL.of (s3 _ _ (s1 _ _ h0))) hD (ev_words (L n)) (fun v c H2 Rq _ _ _ kk => kk _ (Same.refl _)) ?_ ?_
        · rintro _ m H3 Rq mm _ s3 rfl kk
          obtain ⟨i5, u5, z5, hn5, hz5, ⟨a5, dx5, tf5, rfl, ha5, us5, hf5, ev5⟩, g5⟩ := hd.get ((sub n mn).2 m mm)
          obtain ⟨ez5, fe5⟩ := at_name nd hn5 hz5
          have s13 := s1.trans s3
          refine ⟨_, rfl, v, CH, dx, _, _, rfl, s13 _ _ hs, HC.cl, HC.no _ (by simp), l1, _, rfl, d, _, rfl, dget_same g5 s13, a5, CK, dx5, _, _, rfl, s13 _ _ ha5, C.cl, C.no _ (by simp), (lk_ks _ _ _ _ _ _ _).2.2.2.2.1, kk _ _ (Same.refl _) ?_⟩
          show V.bl z5.h = V.bl (heirB ks m)
          unfold heirB
          rw [fe5]
          rfl
        · intro H3 bs s3 hbs eb
          rw [filter_all] at eb
          have ebs := ev_bools_eq eb
          subst ebs
          have no : ((L n).map fun m => heirB ks m).any id = false := by
            rw [List.any_map, List.any_eq_false]
            intro m hm
            show ¬ heirB ks m = true
            rw [f2 m hm]
            exact Bool.false_ne_true
          refine ⟨D, _, rfl, SqL.of hbs, _, rfl, ?_⟩
          rw [no]
          exact iteF ⟨_, _, rfl, s1.trans s3⟩
    · rintro σ H1 ⟨v1, v2, rfl, s1⟩
      exact k H1 s1
end
end Wh
set_option Elab.async false
set_option linter.all false
set_option maxRecDepth 100000
set_option maxHeartbeats 4000000
namespace Wh
open PySem PySem.Spec PyProof.Rows L2
open Wp hiding Same.refl Same.trans same_new boot_all
open W8 (Ev Rp Kp Mono same_new take_snoc rW rB mW mB ev_words ev_words_eq ev_bools_eq lc_sieve)
/-! ## houses that are right -/
def atName (ks : List KD) (n : Str) : Option KD := ks.find? fun e => decide (e.n = n)
def leadOf (ks : List KD) (n : Str) : List Str := ((atName ks n).map (ledBy ks)).getD []
noncomputable def farK (ks : List KD) (n : Str) : List Str := farOf (ks.map (·.n)) (leadOf ks) n
structure HouseOk (root : Str) (ks : List KD) : Prop where
  n1 : 1 ≤ ks.length
  n12 : ks.length ≤ 12
  alone : ∀ i x, ks[i]? = some x → Alone (ks.take i) (ks.map (·.n)) x
  frz : ∀ x ∈ ks, x.f = true → x.n ∉ farK ks x.n ∧ ∀ m ∈ farK ks x.n, heirB ks m = false
  root : ∃ x ∈ ks, x.n = root ∧ x.k = none
theorem nodup_of_new : ∀ (ks : List KD), (∀ i x, ks[i]? = some x → x.n ∉ (ks.take i).map (·.n)) → (ks.map (·.n)).Nodup := by
  intro ks h
  refine List.pairwise_iff_getElem.mpr fun i j hi hj hij e => ?_
  rw [List.getElem_map, List.getElem_map] at e
  rw [List.length_map] at hi hj
  refine h j _ (List.getElem?_eq_getElem hj) ?_
  rw [← e]
  refine List.mem_map_of_mem (List.mem_iff_getElem.mpr ⟨i, by rw [List.length_take]; omega, ?_⟩)
  rw [List.getElem_take]
namespace HouseOk
variable {root : Str} {ks : List KD}
theorem nd (h : HouseOk root ks) : (ks.map (·.n)).Nodup := nodup_of_new ks fun i x e => (h.alone i x e).new
theorem find_take {es ks : List KD} {b : Str} (pre : ∃ tl, ks = es ++ tl) (h : ∃ e ∈ es, e.n = b) : baseFs es b = baseFs ks b := by
  obtain ⟨tl, rfl⟩ := pre
  obtain ⟨e, me, ee⟩ := h
  unfold baseFs
  rw [List.find?_append]
  have : (es.find? fun e => decide (e.n = b)).isSome = true := by
    rw [List.find?_isSome]
    exact ⟨e, me, decide_eq_true ee⟩
  obtain ⟨z, hz⟩ := Option.isSome_iff_exists.mp this
  rw [hz]
  rfl
theorem all (h : HouseOk root ks) {i : Nat} {x : KD} (e : ks[i]? = some x) : allF (ks.take i) x = allF ks x := by
  unfold allF
  cases eb : x.b with
  | none => rfl
  | some b =>
    obtain ⟨y, my, ey, _⟩ := (h.alone i x e).base b eb
    show baseFs (ks.take i) b ++ _ = baseFs ks b ++ _
    rw [find_take ⟨ks.drop i, (List.take_append_drop i ks).symm⟩ ⟨y, my, ey⟩]
theorem at_mem {x : KD} (mx : x ∈ ks) : ∃ i : Nat, ks[i]? = some x := by
  obtain ⟨i, hi, e⟩ := List.getElem_of_mem mx
  exact ⟨i, by rw [List.getElem?_eq_getElem hi, e]⟩
theorem few (h : HouseOk root ks) {x : KD} (mx : x ∈ ks) : (allF ks x).length ≤ 10 := by
  obtain ⟨i, e⟩ := at_mem mx
  rw [← h.all e]
  exact (h.alone i x e).few
theorem aimed (h : HouseOk root ks) : Aimed ks := fun x mx g mg sg => by
  obtain ⟨i, e⟩ := at_mem mx
  rw [← h.all e] at mg
  obtain ⟨t, et, _⟩ := (h.alone i x e).aim g mg sg
  exact ⟨t, et⟩
theorem base (h : HouseOk root ks) {x : KD} (mx : x ∈ ks) {b : Str} (eb : x.b = some b) : b ∈ ks.map (·.n) := by
  obtain ⟨i, e⟩ := at_mem mx
  obtain ⟨y, my, ey, _⟩ := (h.alone i x e).base b eb
  exact ey ▸ List.mem_map_of_mem (List.mem_of_mem_take my)
theorem atN (h : HouseOk root ks) {x : KD} (mx : x ∈ ks) : atName ks x.n = some x := by
  obtain ⟨i, e⟩ := at_mem mx
  exact find_at h.nd e
theorem leads (h : HouseOk root ks) : Leads (ks.map (·.n)) (leadOf ks) := by
  have q : ∀ n, leadOf ks n = [] ∨ ∃ x, leadOf ks n = ledBy ks x := fun n => by
    unfold leadOf
    cases atName ks n with
    | none => exact .inl rfl
    | some x => exact .inr ⟨x, rfl⟩
  refine ⟨h.nd, by rw [List.length_map]; exact h.n12, fun n _ m hm => ?_, fun n _ => ?_⟩
  · rcases q n with e | ⟨x, e⟩
    · rw [e] at hm; cases hm
    · rw [e] at hm
      exact (List.mem_filter.mp hm).1
  · rcases q n with e | ⟨x, e⟩
    · rw [e]; exact List.nodup_nil
    · rw [e]
      exact h.nd.filter _
end HouseOk
theorem far_mem {ns : List Str} {L : Str → List Str} {n : Str} : (∀ m ∈ farOf ns L n, m ∈ ns) ∧ (farOf ns L n).length ≤ ns.length := by
  unfold farOf
  exact ⟨fun m hm => (List.mem_filter.mp hm).1, List.length_filter_le _ _⟩
/-! ## all but the houses is as it was -/
def Kh (CH : Addr) (H H' : Hp) : Prop := ∀ b o, (∀ d fs, o ≠ .ins CH d fs) → H b = some o → H' b = some o
theorem Kh.of {CH : Addr} {H H' : Hp} (s : Same H H') : Kh CH H H' := fun b o _ e => s b o e
theorem Kh.trans {CH : Addr} {H H' H'' : Hp} (s : Kh CH H H') (t : Kh CH H' H'') : Kh CH H H'' := fun b o n e => t b o n (s b o n e)
theorem Kh.put {CH s dx dx' : Addr} {H : Hp} {fs fs' : List (Str × V)} (h : H s = some (.ins CH dx fs)) : Kh CH H (upd H s (.ins CH dx' fs')) := fun b o n e => by
  rw [upd_ne fun z => by
    rw [z, h] at e
    exact n _ _ (Option.some.inj e).symm]
  exact e
section
variable {K : PySem.W.Frag} {CF CK CH : Addr} {H H' : Hp} {v : V}
theorem Kh.sqT {a : Addr} {xs : List V} (s : Kh CH H H') (h : SqT K H a xs) : SqT K H' a xs := by
  rcases h with (h | ⟨o, h⟩) | h
  · exact .inl (.inl (s _ _ (fun _ _ z => by cases z) h))
  · exact .inl (.inr ⟨o, s _ _ (fun _ _ z => by cases z) h⟩)
  · exact .inr h
theorem Kh.sqL {a : Addr} {xs : List V} (s : Kh CH H H') (h : SqL K H a xs) : SqL K H' a xs :=
  h.elim (fun h => .inl (h.elim (fun h => .inl (s _ _ (fun _ _ z => by cases z) h)) fun ⟨o, h⟩ => .inr ⟨o, s _ _ (fun _ _ z => by cases z) h⟩)) fun h => .inr h
theorem rF_kh {x : FV} (n : CF ≠ CH) (s : Kh CH H H') (h : rF K CF H v x) : rF K CF H' v x := by
  obtain ⟨a, e, ⟨dx, tw, h1, h2⟩, sh⟩ := h
  exact ⟨a, e, ⟨dx, tw, s _ _ (fun _ _ z => n (by cases z; rfl)) h1, s.sqT h2⟩, sh⟩
theorem tuF_kh {l : Addr} {cs : List FV} (n : CF ≠ CH) (s : Kh CH H H') (h : TuK K (rF K CF) H l cs) : TuK K (rF K CF) H' l cs := by
  obtain ⟨xs, h1, h2⟩ := h
  exact ⟨xs, s.sqT h1, h2.1, fun i x c a b => rF_kh n s (h2.2 i x c a b)⟩
theorem rK_kh {x : KD} (n : CF ≠ CH) (m : CK ≠ CH) (s : Kh CH H H') (h : rK K CF CK H v x) : rK K CF CK H' v x := by
  obtain ⟨a, dx, tf, e, h1, h2⟩ := h
  exact ⟨a, dx, tf, e, s _ _ (fun _ _ z => m (by cases z; rfl)) h1, tuF_kh n s h2⟩
theorem rTF_kh {x : List FV} (n : CF ≠ CH) (s : Kh CH H H') (h : rTF K CF H v x) : rTF K CF H' v x := let ⟨t, e, h⟩ := h; ⟨t, e, tuF_kh n s h⟩
theorem rL_kh {x : List Str} (s : Kh CH H H') (h : rL H v x) : rL H' v x := let ⟨t, e, h⟩ := h; ⟨t, e, s _ _ (fun _ _ z => by cases z) h⟩
theorem Dc.kh {α : Type} {R : Rp α} {d : Addr} {ns : List Str} {cs : List α} (m : ∀ v c, R H v c → R H' v c) (s : Kh CH H H') (h : Dc R H d ns cs) : Dc R H' d ns cs := by
  obtain ⟨xs, e, l, v⟩ := h
  exact ⟨xs, s _ _ (fun _ _ z => by cases z) e, l, v.1, fun i x c a b => m _ _ (v.2 i x c a b)⟩
end
/-! ## a house as it stands -/
def fsH (root names kinds by_ flds leads far : V) : List (Str × V) := [("root", root), ("names", names), ("_kinds", kinds), ("_by_name", by_), ("_fields", flds), ("_leads", leads), ("_far", far)]
structure HouseAt (K : PySem.W.Frag) (CF CK CH : Addr) (H : Hp) (s : Addr) (root : Str) (ks : List KD) : Prop where
  ex : ∃ (dx tn tk d df dl dr : Addr), H s = some (.ins CH dx (fsH (.str root) (.ref tn) (.ref tk) (.ref d) (.ref df) (.ref dl) (.ref dr))) ∧ SqT K H tn ((ks.map (·.n)).map V.str) ∧ TuK K (rK K CF CK) H tk ks ∧
    Dc (rK K CF CK) H d (ks.map (·.n)) ks ∧ Dc (rTF K CF) H df (ks.map (·.n)) (ks.map (allF ks)) ∧ Dc rL H dl (ks.map (·.n)) ((ks.map (·.n)).map (leadOf ks)) ∧ Dc rL H dr (ks.map (·.n)) ((ks.map (·.n)).map (farK ks))
  ok : HouseOk root ks
end Wh
set_option Elab.async false
set_option linter.all false
set_option maxRecDepth 100000
set_option maxHeartbeats 4000000
namespace Wp
open PySem L2
/-! ## the pen goes on -/
def Pn (p c : Addr) (ns : List Int) (H : Hp) : Prop := ∃ a r d m t, PenAt H p c ns a r d m t
/-- the pen has written on; all else is as it was -/
structure Go (p c : Addr) (ns : List Int) (H H' : Hp) : Prop where
  but : But p H H'
  pn : Pn p c ns H'
theorem But.refl (p : Addr) (H : Hp) : But p H H := fun _ _ _ e => e
theorem But.trans {p : Addr} {H H1 H2 : Hp} (a : But p H H1) (b : But p H1 H2) : But p H H2 := fun c o n e => b c o n (a c o n e)
theorem Go.refl {p c : Addr} {ns : List Int} {H : Hp} (h : Pn p c ns H) : Go p c ns H H := ⟨But.refl p H, h⟩
theorem Go.trans {p c : Addr} {ns : List Int} {H H1 H2 : Hp} (a : Go p c ns H H1) (b : Go p c ns H1 H2) : Go p c ns H H2 := ⟨a.but.trans b.but, b.pn⟩
theorem Pn.same {p c : Addr} {ns : List Int} {H H' : Hp} (h : Pn p c ns H) (s : Same H H') : Pn p c ns H' := by
  obtain ⟨a, r, d, m, t, S⟩ := h
  exact ⟨a, r, d, m, t, s _ _ S.pd, s _ _ S.cl, S.a0, S.m0, S.m1⟩
theorem Go.of {p c : Addr} {ns : List Int} {H H' : Hp} (h : Pn p c ns H) (s : Same H H') : Go p c ns H H' := ⟨fun b o _ e => s b o e, h.same s⟩
theorem Go.new {p c a : Addr} {ns : List Int} {H : Hp} {o : HO} (h : Pn p c ns H) (n : H a = none) : Go p c ns H (upd H a o) := Go.of h (same_new n)
section
variable {K : PySem.W.Frag} {p c : Addr} {ns : List Int} {H H' : Hp}
theorem Go.ne {a : Addr} {o : HO} (h : Pn p c ns H) (e : H a = some o) (n : ∀ x : Addr × Int × Int × Int × Int × Int, o ≠ .dK (penD x.1 x.2.1 x.2.2.1 x.2.2.2.1 x.2.2.2.2.1 x.2.2.2.2.2)) : a ≠ p := by
  obtain ⟨a1, r, d, m, t, S⟩ := h
  exact ne_of e S.pd (n (c, a1, r, d, m, t))
theorem Go.sqL (g : Go p c ns H H') (h : Pn p c ns H) {a : Addr} {xs : List V} (q : SqL K H a xs) : SqL K H' a xs := by
  rcases q with (q | ⟨o, q⟩) | q
  · exact .inl (.inl (g.but _ _ (Go.ne h q (by intro x z; cases z)) q))
  · exact .inl (.inr ⟨o, g.but _ _ (Go.ne h q (by intro x z; cases z)) q⟩)
  · exact .inr q
theorem Go.sqT (g : Go p c ns H H') (h : Pn p c ns H) {a : Addr} {xs : List V} (q : SqT K H a xs) : SqT K H' a xs := by
  rcases q with (q | ⟨o, q⟩) | q
  · exact .inl (.inl (g.but _ _ (Go.ne h q (by intro x z; cases z)) q))
  · exact .inl (.inr ⟨o, g.but _ _ (Go.ne h q (by intro x z; cases z)) q⟩)
  · exact .inr q
mutual
theorem Go.dp (g : Go p c ns H H') (h : Pn p c ns H) : ∀ {v : V} {d : PyData}, Dp K H v d → Dp K H' v d
  | _, _, .non => .non
  | _, _, .bl b => .bl b
  | _, _, .int i => .int i
  | _, _, .str x => .str x
  | _, _, .lst s a => .lst (g.sqL h s) (Go.dpAll g h a)
  | _, _, .tup s a => .tup (g.sqT h s) (Go.dpAll g h a)
theorem Go.dpAll (g : Go p c ns H H') (h : Pn p c ns H) : ∀ {vs : List V} {ds : List PyData}, DpAll K H vs ds → DpAll K H' vs ds
  | _, _, .nil => .nil
  | _, _, .cons a b => .cons (Go.dp g h a) (Go.dpAll g h b)
end
theorem Go.dq (g : Go p c ns H H') (h : Pn p c ns H) {v : V} {d : PyData} (q : Dq K H v d) : Dq K H' v d := by
  cases q with
  | dat q sh => exact .dat (g.dp h q) sh
  | dct e => exact .dct (g.but _ _ (Go.ne h e (by intro x z; simp [penD] at z)) e)
theorem Go.field {CF a : Addr} {v : FV} (g : Go p c ns H H') (h : Pn p c ns H) (q : FieldAt K CF H a v) : FieldAt K CF H' a v := by
  obtain ⟨⟨dx, tw, e, sq⟩, sh⟩ := q
  exact ⟨⟨dx, tw, g.but _ _ (Go.ne h e (by intro x z; cases z)) e, g.sqT h sq⟩, sh⟩
theorem Go.item {CF : Addr} {u : V} {i : Item} (g : Go p c ns H H') (h : Pn p c ns H) (q : ItAt K CF H u i) : ItAt K CF H' u i := by
  cases i with
  | f v =>
    obtain ⟨a, e, q⟩ := q
    exact ⟨a, e, g.field h q⟩
  | d x => exact g.dq h (show Dq K H u x from q)
/-- a number is drawn -/
theorem take_go {Q : VK} {E : XK} {b : Int} (h : Pn p c ns H) (b0 : 0 < b) (b1 : b < 2 ^ 60) (k : ∀ v H', 0 ≤ v → v < b → Go p c ns H H' → Q (.int v) H') : spTake [.ref p, .int b] H Q E := by
  obtain ⟨a, r, d, m, t, S⟩ := h
  refine ⟨p, c, ns, a, r, d, m, t, b, rfl, S, b0, b1, fun v a' r' d' m' t' v0 v1 ha hm hm2 => k v _ v0 v1 ⟨fun b o n e => ?_, ⟨a', r', d', m', t', S.set ha hm hm2⟩⟩⟩
  rw [upd_ne n]
  exact e
/-- one of a menu is drawn -/
theorem one_go {Q : VK} {E : XK} {q : Addr} {xs : List V} (h : Pn p c ns H) (sq : SqL K H q xs) (l0 : 0 < xs.length) (l1 : xs.length ≤ 1000) (k : ∀ x H', x ∈ xs → Go p c ns H H' → Q x H') : spOne K [.ref p, .ref q] H Q E := by
  obtain ⟨a, r, d, m, t, S⟩ := h
  refine ⟨p, c, q, ns, a, r, d, m, t, xs, rfl, S, sq, l0, l1, fun x a' r' d' m' t' hx ha hm hm2 => k x _ hx ⟨fun b o n e => ?_, ⟨a', r', d', m', t', S.set ha hm hm2⟩⟩⟩
  rw [upd_ne n]
  exact e
end
end Wp
set_option Elab.async false
set_option linter.all false
set_option maxRecDepth 100000
set_option maxHeartbeats 4000000
namespace Wp
open PySem L2
theorem cut_tail {x : Str} {c : Nat} {r : List Nat} (ex : x.cps.toList = c :: r) : (cutS x (some 1) none).cps.toList = r := by
  have e3 : x.length = r.length + 1 := by
    have : x.cps.toList.length = (c :: r).length := by rw [ex]
    rw [Array.length_toList] at this
    exact this
  have e1 : HT.sIx x.length 0 (some 1) = 1 := by
    rw [show ((1 : Int)) = ((1 : Nat) : Int) from rfl, HT.sIx_nat]
    omega
  have e2 : HT.sIx x.length x.length none = x.length := rfl
  show (((x.cps.toList.drop (HT.sIx x.length 0 (some 1))).take (HT.sIx x.length x.length none - HT.sIx x.length 0 (some 1))).toArray).toList = r
  rw [e1, e2, ex, e3]
  simp
/-! ## words are drawn -/
structure IsW (x : Str) : Prop where
  l0 : 1 ≤ x.length
  l1 : x.length ≤ 8
  sm : lettersIn smallS x = true
theorem IsW.fld {x : Str} (h : IsW x) : isFieldName (.str x) = true := by
  simp only [isFieldName, isWordN]
  rw [decide_eq_true h.l0, decide_eq_true (p := (x.length : Int) ≤ 8) (by have := h.l1; omega), h.sm]
  rfl
theorem letters_add (z a b : Str) : lettersIn z (a ++ b) = (lettersIn z a && lettersIn z b) := by
  unfold lettersIn
  rw [show (a ++ b).cps = a.cps ++ b.cps from rfl, Array.toList_append, List.all_append]
theorem small_at {i : Int} (h0 : 0 ≤ i) (h1 : i < 26) : ∃ c, atI smallS.cps.toList i = some c ∧ c ∈ smallS.cps.toList := by
  obtain ⟨j, rfl⟩ := Int.eq_ofNat_of_zero_le h0
  have hl : smallS.cps.toList.length = 26 := by decide +kernel
  have hj : j < smallS.cps.toList.length := by omega
  exact ⟨_, atI_nat (List.getElem?_eq_getElem hj), List.getElem_mem hj⟩
abbrev rCatS : R2 := fun x y H Q => ∃ i j, x = .str i ∧ y = .str j ∧ i.length + j.length ≤ sizeLine ∧ Q (.str (i ++ j)) H
abbrev bodyW : TS := tIfS (tTest (tOp rEq (tVar 8) (tVar 1)))
  (tAsg (tOp rCatS (tVar 7) (tOp rIxS (tVar 5) (tOp (rI (fun _ j => 0 < j) fun i j => .int (i % j)) (tVar 2) (tC (.int 26))))) (gName 7))
  (tIfS (tB (tVar 3)) (tAsg (tOp rCatS (tVar 7) (tC (.str "a"))) (gName 7))
    (tAsg (tOp rCatS (tVar 7) (tOp rIxS (tVar 5) (tCall spTake [] E0 (tCons (tVar 0) (tCons (tC (.int 26)) tNil))))) (gName 7)))
theorem wd_step {wd z : Str} {i : Nat} (l : wd.length = i) (s : lettersIn smallS wd = true) (c : Nat) (hz : z = ⟨#[c]⟩) (hc : c ∈ smallS.cps.toList) : (wd ++ z).length = i + 1 ∧ lettersIn smallS (wd ++ z) = true := by
  subst hz
  constructor
  · show ((wd.cps ++ #[c]).size) = i + 1
    have : wd.cps.size = i := l
    simp [this]
  · rw [letters_add, s]
    show (true && ([c].all fun c => decide (c ∈ smallS.cps.toList))) = true
    rw [List.all_cons, decide_eq_true hc]
    rfl
/-- the letter that stands at a place -/
def LAt (x : Str) (pl ix : Int) : Prop := ∃ q, atI smallS.cps.toList (ix % 26) = some q ∧ x.cps.toList[pl.toNat]? = some q
theorem wd_list {wd : Str} {c : Nat} : (wd ++ (⟨#[c]⟩ : Str)).cps.toList = wd.cps.toList ++ [c] := by
  rw [show (wd ++ (⟨#[c]⟩ : Str)).cps = wd.cps ++ #[c] from rfl, Array.toList_append]
theorem wd_len {wd : Str} : wd.cps.toList.length = wd.length := Array.length_toList
theorem lat_step {wd : Str} {pl ix : Int} {c i : Nat} (l : wd.length = i) (h : pl.toNat < i → LAt wd pl ix) (e : pl.toNat = i → atI smallS.cps.toList (ix % 26) = some c) : pl.toNat < i + 1 → LAt (wd ++ (⟨#[c]⟩ : Str)) pl ix := by
  intro lt
  by_cases n : pl.toNat < i
  · obtain ⟨q, q1, q2⟩ := h n
    refine ⟨q, q1, ?_⟩
    rw [wd_list, List.getElem?_append_left (by rw [wd_len, l]; exact n)]
    exact q2
  · have n2 : pl.toNat = i := by omega
    refine ⟨c, e n2, ?_⟩
    rw [wd_list, n2, List.getElem?_append_right (by rw [wd_len, l]; exact Nat.le_refl _), wd_len, l, Nat.sub_self]
    rfl
theorem wd_rest {p c : Addr} {ns : List Int} {pl ix size : Int} {b : Bool} {H : Hp} {D : Ends} {w7 w8 : Option V} (pn : Pn p c ns H) (i0 : 0 ≤ ix) (p0 : 0 ≤ pl) (l0 : pl + 1 ≤ size) (l1 : size ≤ 8) (k : ∀ x H', IsW x → LAt x pl ix → Go p c ns H H' → D.rt (.str x) H') :
    tSeq (tAsg (tC (.str "")) (gName 7)) (tSeq (tFor (iRng1 (tCons (tVar 6) tNil)) (gName 8) bodyW) (tRet (tVar 7))) D
      [some (.ref p), some (.int pl), some (.int ix), some (.bl b), some (.int 8), some (.str smallS), some (.int size), w7, w8] H := by
  have en : (size.toNat : Int) = size := by omega
  refine ⟨_, rfl, size, rfl, by omega, by omega, ?_⟩
  refine for_it walk_range (fun i σ H' => Go p c ns H H' ∧ ∃ (wd : Str) (v8 : Option V), σ = [some (.ref p), some (.int pl), some (.int ix), some (.bl b), some (.int 8), some (.str smallS), some (.int size), some (.str wd), v8] ∧ wd.length = i ∧ lettersIn smallS wd = true ∧ (pl.toNat < i → LAt wd pl ix))
    ⟨Go.refl pn, "", w8, rfl, rfl, rfl, fun z => by omega⟩ (fun _ _ _ _ _ => trivial) ?_ ?_
  · rintro i y σ H1 H2 hi ⟨go, wd, v8, rfl, lw, sw, la⟩ ⟨rfl, rfl⟩
    have room : ∀ q : Nat, wd.length + (⟨#[q]⟩ : Str).length ≤ sizeLine := fun q => by
      rw [lw, sizeLine_eq]
      show i + 1 ≤ _
      omega
    refine ⟨_, rfl, _, rfl, rfl, _, rfl, ?_⟩
    refine ite2 (fun h1 => ?_) (fun h1 => ?_)
    · have m := mod7 (x := ix) (b := 26) (by decide)
      obtain ⟨q, hq, mq⟩ := small_at m.1 m.2
      refine ⟨_, rfl, _, rfl, _, rfl, _, _, rfl, rfl, (by show (0 : Int) < 26; decide), smallS, _, q, rfl, rfl, (by rw [sizeLine_eq]; decide +kernel), hq, wd, _, rfl, rfl, room q, ?_⟩
      have st := wd_step lw sw q rfl mq
      exact ⟨go, _, _, rfl, st.1, st.2, lat_step lw la fun _ => hq⟩
    · refine ⟨_, rfl, b, rfl, ?_⟩
      cases b with
      | true =>
        refine ⟨_, rfl, wd, _, rfl, rfl, room 97, ?_⟩
        have st := wd_step lw sw 97 rfl (by decide +kernel)
        exact ⟨go, _, _, rfl, st.1, st.2, lat_step lw la fun e => absurd (decide_eq_true (show V.int (0 + ((i : Nat) : Int)) = V.int pl by congr 1; omega)) h1⟩
      | false =>
        refine ⟨_, rfl, _, rfl, _, rfl, ?_⟩
        dsimp only [tCons, tC, tNil, List.append_nil]
        refine take_go (b := 26) go.pn (by decide) (by decide) fun v H3 v0 v1 g3 => ?_
        obtain ⟨q, hq, mq⟩ := small_at v0 v1
        refine ⟨smallS, _, q, rfl, rfl, (by rw [sizeLine_eq]; decide +kernel), hq, wd, _, rfl, rfl, room q, ?_⟩
        have st := wd_step lw sw q rfl mq
        exact ⟨go.trans g3, _, _, rfl, st.1, st.2, lat_step lw la fun e => absurd (decide_eq_true (show V.int (0 + ((i : Nat) : Int)) = V.int pl by congr 1; omega)) h1⟩
  · rintro σ H1 ⟨go, wd, v8, rfl, lw, sw, la⟩
    exact ⟨_, rfl, k wd H1 ⟨by omega, by omega, sw⟩ (la (by omega)) go⟩
def spWd (K : PySem.W.Frag) : Sp := fun vs H Q _ => ∃ (p c : Addr) (ns : List Int) (place index : Int) (plain : Bool), vs = [.ref p, .int place, .int index, .bl plain, .int 8] ∧ Pn p c ns H ∧ 0 ≤ place ∧ place ≤ 7 ∧ 0 ≤ index ∧
  ∀ x H', IsW x → LAt x place index → Go p c ns H H' → Q (.str x) H'
section
variable {P : Program} {w : World} {K : PySem.W.Frag} {mg : Str → Option Value} {base : Heap}
abbrev lWd : Stmt := top 38
theorem scLWd : FnScope ["_law_pen_here", "_law_place", "_law_index", "_law_plain", "_law_most", "_law_letters", "_law_size", "_law_word_here", "_law_k"] ["_law_pen_here", "_law_place", "_law_index", "_law_plain", "_law_most"] (defScope lWd) := ⟨rfl, rfl, rfl, by decide +kernel, rfl, by decide +kernel, by decide +kernel⟩
theorem ok_lWd {f f1 : Addr} {fd fd1 : FuncData} (F : Fun K "_law_word" "_law_word" lWd f fd) (B : Bn mg) (T : Known P w K mg base CX0 1 "_law_take" ["_law_pen_here", "_law_bound"] spTake f1 fd1) :
    FnOk P w K mg base CX0 2 f fd ["_law_pen_here", "_law_place", "_law_index", "_law_plain", "_law_most"] (spWd K) := by
  refine F.ok scLWd (fun vs H Q E h => ?_) (fun cdv A outer s H vs Q E hr h => ?_)
  · obtain ⟨p, c, ns, pl, ix, b, rfl, _⟩ := h
    rfl
  · obtain ⟨p, c, ns, pl, ix, b, rfl, pn, p0, p1, i0, k⟩ := h
    refine ⟨_, pss_cons (ps_set (i := 5) scLWd.nd rfl (.inl rfl) pe_str)
      (pss_cons (ps_set (i := 6) scLWd.nd rfl (.inl rfl) (pe_op op_add (pv 1) pe_int))
      (pss_cons (ps_if (pt_not (pt_val (pv 3))) (pss_one (ps_set (i := 6) scLWd.nd rfl (.inl rfl) (pe_op op_add (pv 6) (pe_call T.ok hr rfl T.mg T.kp T.bi .nil pass0 (pa_cons (pv 0) (pa_cons (pe_op op_sub (pv 4) (pv 1)) pa_nil)))))) pss_nil)
      (pss_cons (ps_set (i := 7) scLWd.nd rfl (.inl rfl) pe_str)
      (pss_cons (ps_for PassesOwn.never rfl (pi_range1 rfl B.range (pa_cons (pv 6) pa_nil)) (pg_name (i := 8) scLWd.nd rfl (Or.inl rfl))
        (pss_one (ps_if (pt_cmpR op_eq (pv 8) (pv 1) (nomark _))
          (pss_one (ps_set (i := 7) scLWd.nd rfl (.inl rfl) (pe_op op_add_str (pv 7) (pe_ix ix_str (pv 5) (pe_op op_mod (pv 2) pe_int) (fun _ _ => rfl)))))
          (pss_one (ps_if (pt_val (pv 3))
            (pss_one (ps_set (i := 7) scLWd.nd rfl (.inl rfl) (pe_op op_add_str (pv 7) pe_str)))
            (pss_one (ps_set (i := 7) scLWd.nd rfl (.inl rfl) (pe_op op_add_str (pv 7) (pe_ix ix_str (pv 5) (pe_call T.ok hr rfl T.mg T.kp T.bi .nil pass0 (pa_cons (pv 0) (pa_cons pe_int pa_nil))) (fun _ _ => rfl))))))))))
      (pss_one (ps_ret (pv 7))))))), ?_⟩
    refine ⟨_, rfl, _, _, rfl, rfl, ?_⟩
    refine ⟨_, rfl, b, rfl, ?_⟩
    cases b with
    | true => exact wd_rest pn i0 p0 (by omega) (by omega) k
    | false =>
      refine ⟨_, rfl, _, rfl, _, rfl, _, rfl, _, _, rfl, rfl, ?_⟩
      dsimp only [tCons, tC, tNil, List.append_nil]
      refine take_go (b := 8 - pl) pn (by omega) (by omega) fun v H1 v0 v1 g1 => ?_
      refine ⟨_, _, rfl, rfl, ?_⟩
      exact wd_rest g1.pn i0 p0 (by omega) (by omega) fun x H' hx la g2 => k x H' hx la (g1.trans g2)
end
/-- what was made since may be filled -/
theorem Go.over {p c D : Addr} {ns : List Int} {H0 H : Hp} {o : HO} (pn : Pn p c ns H0) (g : Go p c ns H0 H) (n : H0 D = none) : Go p c ns H0 (upd H D o) := by
  obtain ⟨a, r, d, m, t, S⟩ := pn
  obtain ⟨a', r', d', m', t', S'⟩ := g.pn
  have np : p ≠ D := ne_of_none S.pd n
  have nc : c ≠ D := ne_of_none S.cl n
  refine ⟨fun b u nb e => ?_, a', r', d', m', t', ?_, ?_, S'.a0, S'.m0, S'.m1⟩
  · rw [upd_ne (ne_of_none e n)]
    exact g.but b u nb e
  · rw [upd_ne np]
    exact S'.pd
  · rw [upd_ne nc]
    exact S'.cl
/-- words that are told apart at one place -/
def Dif (ws : List Str) : Prop := ∃ pl : Nat, ws.Pairwise fun x y => ∃ a b, x.cps.toList[pl]? = some a ∧ y.cps.toList[pl]? = some b ∧ a ∈ smallS.cps.toList ∧ b ∈ smallS.cps.toList ∧ a ≠ b
theorem small_inj {i j : Int} {a b : Nat} (h1 : atI smallS.cps.toList (i % 26) = some a) (h2 : atI smallS.cps.toList (j % 26) = some b) (ne : i % 26 ≠ j % 26) : a ∈ smallS.cps.toList ∧ b ∈ smallS.cps.toList ∧ a ≠ b := by
  have m1 := mod7 (x := i) (b := 26) (by decide)
  have m2 := mod7 (x := j) (b := 26) (by decide)
  obtain ⟨x, hx⟩ := Int.eq_ofNat_of_zero_le m1.1
  obtain ⟨y, hy⟩ := Int.eq_ofNat_of_zero_le m2.1
  rw [hx] at h1 ne m1
  rw [hy] at h2 ne m2
  have hl : smallS.cps.toList.length = 26 := by decide +kernel
  have nd : smallS.cps.toList.Nodup := by decide +kernel
  have lx : x < smallS.cps.toList.length := by omega
  have ly : y < smallS.cps.toList.length := by omega
  have ex := atI_nat (List.getElem?_eq_getElem lx)
  have ey := atI_nat (List.getElem?_eq_getElem ly)
  cases h1.symm.trans ex
  cases h2.symm.trans ey
  refine ⟨List.getElem_mem lx, List.getElem_mem ly, fun e => ne ?_⟩
  have := (List.getElem_inj nd).mp e
  rw [this]
theorem dif_of {ws : List Str} {pl off : Int} (few : ws.length ≤ 26) (h : ∀ (k : Nat) x, ws[k]? = some x → LAt x pl (off + k)) : Dif ws := by
  refine ⟨pl.toNat, List.pairwise_iff_getElem.mpr fun i j hi hj hij => ?_⟩
  obtain ⟨a, a1, a2⟩ := h i _ (List.getElem?_eq_getElem hi)
  obtain ⟨b, b1, b2⟩ := h j _ (List.getElem?_eq_getElem hj)
  exact ⟨a, b, a2, b2, small_inj a1 b1 (by omega)⟩
def spWds (K : PySem.W.Frag) : Sp := fun vs H Q _ => ∃ (p c : Addr) (ns : List Int) (count : Nat), vs = [.ref p, .int count, .int 8] ∧ Pn p c ns H ∧ count ≤ 100 ∧
  ∀ (q : Addr) (ws : List Str) H', ws.length = count → (∀ x ∈ ws, IsW x) → (count ≤ 26 → Dif ws) → Go p c ns H H' → H' q = some (.lst (ws.map V.str)) → Q (.ref q) H'
section
variable {P : Program} {w : World} {K : PySem.W.Frag} {mg : Str → Option Value} {base : Heap}
abbrev lWds : Stmt := top 39
theorem scLWds : FnScope ["_law_pen_here", "_law_count", "_law_most", "_law_plain", "_law_place", "_law_offset", "_law_k"] ["_law_pen_here", "_law_count", "_law_most"] (defScope lWds) := ⟨rfl, rfl, rfl, by decide +kernel, rfl, by decide +kernel, by decide +kernel⟩
theorem ok_lWds {f f1 f2 f3 : Addr} {fd fd1 fd2 fd3 : FuncData} (F : Fun K "_law_words" "_law_words" lWds f fd) (B : Bn mg) (T : Known P w K mg base CX0 1 "_law_take" ["_law_pen_here", "_law_bound"] spTake f1 fd1)
    (O : Known P w K mg base CX0 2 "_law_one_of" ["_law_pen_here", "_law_menu"] (spOne K) f2 fd2) (W : Known P w K mg base CX0 2 "_law_word" ["_law_pen_here", "_law_place", "_law_index", "_law_plain", "_law_most"] (spWd K) f3 fd3) :
    FnOk P w K mg base CX0 3 f fd ["_law_pen_here", "_law_count", "_law_most"] (spWds K) := by
  refine F.ok scLWds (fun vs H Q E h => ?_) (fun cdv A outer s H vs Q E hr h => ?_)
  · obtain ⟨p, c, ns, n, rfl, _⟩ := h
    rfl
  · obtain ⟨p, c, ns, n, rfl, pn, few, k⟩ := h
    refine ⟨_, pss_cons (ps_set (i := 3) scLWds.nd rfl (.inr rfl) (pe_cmpR op_gt (pe_call T.ok (hr.mono (by decide)) rfl T.mg T.kp T.bi .nil pass0 (pa_cons (pv 0) (pa_cons pe_int pa_nil))) pe_int (nomark _)))
      (pss_cons (ps_set (i := 4) scLWds.nd rfl (.inr rfl) (pe_call O.ok hr rfl O.mg O.kp O.bi .nil pass0 (pa_cons (pv 0) (pa_cons (pe_lst (pa_cons pe_int (pa_cons pe_int (pa_cons pe_int (pa_cons (pe_op op_sub (pv 2) pe_int) pa_nil))))) pa_nil))))
      (pss_cons (ps_set (i := 5) scLWds.nd rfl (.inr rfl) (pe_call T.ok (hr.mono (by decide)) rfl T.mg T.kp T.bi .nil pass0 (pa_cons (pv 0) (pa_cons pe_int pa_nil))))
      (pss_one (ps_ret (pe_lc (own := [("_law_k", 6)]) (g := gName 6) (tt := tYes) (te := tCall (spWd K) [] E0 (tCons (tVar 0) (tCons (tVar 4) (tCons (tOp (rI0 fun i j => .int (i + j)) (tVar 5) (tVar 6)) (tCons (tVar 3) (tCons (tVar 2) tNil)))))) rfl scLWds.nd (pi_range1 rfl B.range (pa_cons (pv 1) pa_nil))
        (blkOk_by (N := ["_law_pen_here", "_law_count", "_law_most", "_law_plain", "_law_place", "_law_offset", "_law_k"]) (sc := defScope lWds) (by decide +kernel)) (fun _ _ _ _ _ => pg_name (i := 6) scLWds.nd rfl (Or.inl rfl)) (fun _ _ _ _ _ => pts_nil)
        (fun _ _ _ _ _ => pe_call W.ok hr rfl W.mg W.kp W.bi .nil pass0 (pa_cons (pv 0) (pa_cons (pv 4) (pa_cons (pe_op op_add (pv 5) (pv 6)) (pa_cons (pv 3) (pa_cons (pv 2) pa_nil))))))))))), ?_⟩
    refine ⟨_, rfl, ?_⟩
    dsimp only [tCons, tC, tNil, List.append_nil]
    refine take_go (b := 3) pn (by decide) (by decide) fun v1 H1 a0 a1 g1 => ?_
    refine ⟨_, _, rfl, rfl, ?_⟩
    refine ⟨_, rfl, _, rfl, _, _, rfl, rfl, by show 4 ≤ sizeLine; decide, fun l hl => ?_⟩
    dsimp only [tNil, List.append_nil]
    have g2 : Go p c ns H (upd H1 l (.lst [.int 0, .int 0, .int 1, .int (8 - 1)])) := g1.trans (Go.new g1.pn hl)
    refine one_go g2.pn (SqL.of upd_same) (by decide) (by decide) fun x H3 mx g3 => ?_
    obtain ⟨pl, rfl, p0, p1⟩ : ∃ pl : Int, x = .int pl ∧ 0 ≤ pl ∧ pl ≤ 7 := by
      simp only [List.mem_cons, List.not_mem_nil, or_false] at mx
      rcases mx with rfl | rfl | rfl | rfl
      · exact ⟨0, rfl, by decide, by decide⟩
      · exact ⟨0, rfl, by decide, by decide⟩
      · exact ⟨1, rfl, by decide, by decide⟩
      · exact ⟨7, rfl, by decide, by decide⟩
    have g23 := g2.trans g3
    refine ⟨_, rfl, ?_⟩
    dsimp only [tCons, tC, tNil, List.append_nil]
    refine take_go (b := 26) g23.pn (by decide) (by decide) fun v4 H4 b0 b1 g4 => ?_
    have g24 := g23.trans g4
    refine ⟨_, rfl, n, rfl, by omega, by omega, fun D hD => ?_⟩
    refine lc_it walk_range (fun i H' => Go p c ns H4 H' ∧ ∃ ws : List Str, ws.length = i ∧ (∀ x ∈ ws, IsW x) ∧ (∀ (k : Nat) x, ws[k]? = some x → LAt x pl (v4 + k)) ∧ H' D = some (.lst (ws.map V.str))) ⟨Go.new g24.pn hD, [], rfl, fun x hx => (by cases hx), fun k x z => (by simp at z), upd_same⟩ (fun _ _ _ _ => trivial) ?_ ?_
    · rintro i y H5 H6 hi ⟨go, ws, lw, iw, lt, eD⟩ ⟨rfl, rfl⟩
      refine ⟨rfl, ⟨_, rfl, _, rfl, _, rfl, _, rfl, _, _, rfl, rfl, _, rfl, _, rfl, p, c, ns, pl, _, _, rfl, go.pn, p0, p1, by omega, fun x H7 hx lx g7 => ?_⟩⟩
      have nD : D ≠ p := Go.ne go.pn eD (by intro x z; cases z)
      refine ⟨_, g7.but _ _ nD eD, ?_, Go.over g24.pn (go.trans g7) hD, ws ++ [x], by simp [lw], ?_, ?_, ?_⟩
      · rw [List.length_map, lw, sizeLine_eq]
        omega
      · intro y hy
        rcases List.mem_append.mp hy with hy | hy
        · exact iw y hy
        · rw [List.mem_singleton] at hy
          exact hy ▸ hx
      · intro k y hk
        by_cases lk : k < ws.length
        · rw [List.getElem?_append_left lk] at hk
          exact lt k y hk
        · have ek : k = ws.length := by
            have := (List.getElem?_eq_some_iff.mp hk).1
            simp at this
            omega
          subst ek
          rw [List.getElem?_append_right (Nat.le_refl _), Nat.sub_self] at hk
          cases hk
          rw [lw]
          exact (show (0 : Int) + (i : Int) = (i : Int) by omega) ▸ lx
      · rw [upd_same, List.map_append]
        rfl
    · rintro H5 ⟨go, ws, lw, iw, lt, eD⟩
      exact k D ws H5 (by omega) iw (fun few => dif_of (by omega) lt) (g24.trans go) eD
end
/-! ## the names of kinds -/
theorem upper_ok : (smallS.cps.toList.all fun c => largeS.cps.toList.any fun C => (Txt.upper ⟨#[c]⟩).cps.toList == [C]) = true := by decide +kernel
theorem upper_at {c : Nat} (h : c ∈ smallS.cps.toList) : ∃ C, C ∈ largeS.cps.toList ∧ Txt.upper ⟨#[c]⟩ = ⟨#[C]⟩ := by
  have q := List.all_eq_true.mp upper_ok c h
  obtain ⟨C, hC, e⟩ := List.any_eq_true.mp q
  refine ⟨C, hC, ?_⟩
  have e2 : (Txt.upper ⟨#[c]⟩).cps.toList = [C] := by simpa using e
  refine Str.ext' ?_
  exact Array.toList_inj.mp e2
/-- a kind's name -/
structure IsK (x : Str) : Prop where
  ok : isKindName (.str x) = true
  l1 : x.length ≤ 8
def spKns : Sp := fun vs H Q _ => ∃ (p c : Addr) (ns : List Int) (count : Nat), vs = [.ref p, .int count] ∧ Pn p c ns H ∧ count ≤ 100 ∧
  ∀ (q : Addr) (ws : List Str) H', ws.length = count → (∀ x ∈ ws, IsK x) → (count ≤ 26 → ws.Nodup) → Go p c ns H H' → H' q = some (.lst (ws.map V.str)) → Q (.ref q) H'
theorem isK_of {x : Str} (h : IsW x) : ∃ c r C, x.cps.toList = c :: r ∧ C ∈ largeS.cps.toList ∧ Txt.upper ⟨#[c]⟩ = ⟨#[C]⟩ ∧ IsK (⟨#[C]⟩ ++ cutS x (some 1) none) := by
  obtain ⟨l0, l1, sm⟩ := h
  obtain ⟨c, r, ex⟩ : ∃ c r, x.cps.toList = c :: r := by
    cases e : x.cps.toList with
    | nil =>
      have : x.cps.toList.length = 0 := by rw [e]; rfl
      rw [Array.length_toList] at this
      have e2 : x.length = x.cps.size := rfl
      omega
    | cons c r => exact ⟨c, r, rfl⟩
  unfold lettersIn at sm
  rw [ex, List.all_cons, Bool.and_eq_true] at sm
  obtain ⟨C, hC, eC⟩ := upper_at (of_decide_eq_true sm.1)
  have len : x.length = r.length + 1 := by
    have : x.cps.toList.length = (c :: r).length := by rw [ex]
    rw [Array.length_toList] at this
    exact this
  have et : ((⟨#[C]⟩ : Str) ++ cutS x (some 1) none).cps.toList = C :: r := by
    rw [show ((⟨#[C]⟩ : Str) ++ cutS x (some 1) none).cps = #[C] ++ (cutS x (some 1) none).cps from rfl, Array.toList_append, cut_tail ex]
    rfl
  have el : ((⟨#[C]⟩ : Str) ++ cutS x (some 1) none).length = r.length + 1 := by
    have : ((⟨#[C]⟩ : Str) ++ cutS x (some 1) none).cps.toList.length = (C :: r).length := by rw [et]
    rw [Array.length_toList] at this
    exact this
  refine ⟨c, r, C, ex, hC, eC, ?_, by omega⟩
  simp only [isKindName, et]
  rw [decide_eq_true (by omega), decide_eq_true hC, sm.2]
  rfl
/-- a word with its first letter large -/
def upK (x : Str) : Str := Txt.upper ⟨(x.cps.toList.take 1).toArray⟩ ++ cutS x (some 1) none
theorem upper_inj : (smallS.cps.toList.all fun a => smallS.cps.toList.all fun b => !(Txt.upper ⟨#[a]⟩ == Txt.upper ⟨#[b]⟩) || decide (a = b)) = true := by decide +kernel
theorem upK_list {x : Str} (h : IsW x) : ∃ c r C, x.cps.toList = c :: r ∧ c ∈ smallS.cps.toList ∧ Txt.upper ⟨#[c]⟩ = ⟨#[C]⟩ ∧ upK x = ⟨#[C]⟩ ++ cutS x (some 1) none ∧ (upK x).cps.toList = C :: r := by
  obtain ⟨c, r, C, ex, hC, eC, _⟩ := isK_of h
  have sm := h.sm
  unfold lettersIn at sm
  rw [ex, List.all_cons, Bool.and_eq_true] at sm
  have eu : upK x = ⟨#[C]⟩ ++ cutS x (some 1) none := by
    unfold upK
    rw [ex, show ((c :: r).take 1).toArray = #[c] from rfl, eC]
  refine ⟨c, r, C, ex, of_decide_eq_true sm.1, eC, eu, ?_⟩
  rw [eu, show ((⟨#[C]⟩ : Str) ++ cutS x (some 1) none).cps = #[C] ++ (cutS x (some 1) none).cps from rfl, Array.toList_append, cut_tail ex]
  rfl
theorem upK_nodup {ws : List Str} (iw : ∀ x ∈ ws, IsW x) (d : Dif ws) : (ws.map upK).Nodup := by
  obtain ⟨pl, d⟩ := d
  rw [List.Nodup, List.pairwise_map]
  refine List.Pairwise.imp_of_mem (fun {x y} mx my h => ?_) d
  obtain ⟨a, b, ha, hb, sa, sb, ne⟩ := h
  obtain ⟨c, r, C, ex, mc, eC, _, l1⟩ := upK_list (iw x mx)
  obtain ⟨c', r', C', ex', mc', eC', _, l2⟩ := upK_list (iw y my)
  intro e
  rw [e, l2] at l1
  injection l1 with e1 e2
  cases pl with
  | zero =>
    rw [ex] at ha
    rw [ex'] at hb
    cases ha
    cases hb
    have q := List.all_eq_true.mp (List.all_eq_true.mp upper_inj a mc) b mc'
    rw [eC, eC', e1] at q
    simp at q
    exact ne q
  | succ pl =>
    rw [ex] at ha
    rw [ex'] at hb
    rw [e2] at hb
    have ha : r[pl]? = some a := by simpa using ha
    have hb : r[pl]? = some b := by simpa using hb
    rw [ha] at hb
    exact ne (Option.some.inj hb)
section
variable {P : Program} {w : World} {K : PySem.W.Frag} {mg : Str → Option Value} {base : Heap}
abbrev lKns : Stmt := top 40
theorem scLKns : FnScope ["_law_pen_here", "_law_count", "_law_word_here"] ["_law_pen_here", "_law_count"] (defScope lKns) := ⟨rfl, rfl, rfl, by decide +kernel, rfl, by decide +kernel, by decide +kernel⟩
theorem ok_lKns {f f1 : Addr} {fd fd1 : FuncData} (F : Fun K "_law_kind_names" "_law_kind_names" lKns f fd) (B : Bn mg) (W : Known P w K mg base CX0 3 "_law_words" ["_law_pen_here", "_law_count", "_law_most"] (spWds K) f1 fd1) :
    FnOk P w K mg base CX0 4 f fd ["_law_pen_here", "_law_count"] spKns := by
  refine F.ok scLKns (fun vs H Q E h => ?_) (fun cdv A outer s H vs Q E hr h => ?_)
  · obtain ⟨p, c, ns, n, rfl, _⟩ := h
    rfl
  · obtain ⟨p, c, ns, n, rfl, pn, few, k⟩ := h
    refine ⟨_, pss_one (ps_ret (pe_lc (own := [("_law_word_here", 2)]) (g := gName 2) (tt := tYes) (te := tOp (fun x y H Q => ∃ i j, x = .str i ∧ y = .str j ∧ i.length + j.length ≤ sizeLine ∧ Q (.str (i ++ j)) H)
          (tM0 (fun x xs H Q => ∃ a, x = .str a ∧ xs = [] ∧ a.length ≤ 5592405 ∧ Q (.str (Txt.upper a)) H) (tOp rIxS (tVar 2) (tC (.int 0)))) (tSl rSlS (tVar 2) (tPart (tC (.int 1))) tNoPart)) rfl scLKns.nd
        (pi_list (pe_call W.ok hr rfl W.mg W.kp W.bi .nil pass0 (pa_cons (pv 0) (pa_cons (pv 1) (pa_cons pe_int pa_nil)))))
        (blkOk_by (N := ["_law_pen_here", "_law_count", "_law_word_here"]) (sc := defScope lKns) (by decide +kernel)) (fun _ _ _ _ _ => pg_name (i := 2) scLKns.nd rfl (Or.inl rfl)) (fun _ _ _ _ _ => pts_nil)
        (fun _ _ _ _ _ => pe_op op_add_str (pe_upper (pe_ix ix_str (pv 2) pe_int (fun _ _ => rfl))) (pe_slice sl_str (pv 2) (po_some pe_int) po_none)))), ?_⟩
    refine ⟨_, rfl, _, rfl, p, c, ns, n, rfl, pn, few, fun q ws H1 lw iw df g1 eq => ?_⟩
    refine ⟨q, rfl, ⟨_, SqL.of eq⟩, fun D hD => ?_⟩
    refine lc_it walk_list (fun i H' => Same H1 H' ∧ ∃ us : List Str, us = (ws.take i).map upK ∧ (∀ x ∈ us, IsK x) ∧ H' D = some (.lst (us.map V.str))) ⟨same_new hD, [], rfl, fun x hx => (by cases hx), upd_same⟩
      (fun i H' _ z => sqL_same z.1 (SqL.of eq)) ?_ ?_
    · rintro i y H5 H6 hi ⟨sm, us, lu, iu, eD⟩ ⟨rfl, hy⟩
      obtain ⟨x, hx, rfl⟩ : ∃ x, ws[i]? = some x ∧ y = V.str x := by
        rw [List.getElem?_map] at hy
        cases e : ws[i]? with
        | none =>
          rw [e] at hy
          cases hy
        | some x =>
          rw [e] at hy
          exact ⟨x, rfl, (Option.some.inj hy).symm⟩
      have wx := iw x (List.mem_of_getElem? hx)
      obtain ⟨ch, r, C, ex, hC, eC, ik⟩ := isK_of wx
      have line : x.length ≤ sizeLine := by
        have := wx.l1
        rw [sizeLine_eq]
        omega
      have li : i < ws.length := (List.getElem?_eq_some_iff.mp hx).1
      refine ⟨rfl, ⟨_, rfl, x, 0, ch, rfl, rfl, line, by rw [ex]; exact atI_nat (j := 0) rfl, ⟨_, rfl⟩, _, rfl, rfl, by show 1 ≤ 5592405; decide, _, rfl, 1, rfl, x, rfl, line, _, _, rfl, rfl, ?_, ?_⟩⟩
      · have := cutS_length x (some 1) none
        have := wx.l1
        rw [eC, sizeLine_eq]
        show 1 + _ ≤ _
        omega
      · rw [eC]
        refine ⟨_, eD, ?_, fun b o e => ?_, us ++ [⟨#[C]⟩ ++ cutS x (some 1) none], ?_, ?_, ?_⟩
        · rw [List.length_map, lu, List.length_map, List.length_take, sizeLine_eq]
          omega
        · rw [upd_ne (ne_of_none e hD)]
          exact sm b o e
        · have tk : ws.take (i + 1) = ws.take i ++ [x] := by rw [List.take_succ, hx]; rfl
          rw [tk, List.map_append, ← lu]
          show us ++ _ = us ++ [upK x]
          obtain ⟨c2, r2, C2, ex2, _, eC2, eu2, _⟩ := upK_list wx
          rw [ex] at ex2
          cases ex2
          rw [eC] at eC2
          cases eC2
          rw [eu2]
        · intro y hy
          rcases List.mem_append.mp hy with hy | hy
          · exact iu y hy
          · rw [List.mem_singleton] at hy
            exact hy ▸ ik
        · rw [upd_same, List.map_append]
          rfl
    · rintro H5 ⟨sm, us, lu, iu, eD⟩
      have le : us.length = n := by rw [lu, List.length_map, List.length_take, List.length_map]; omega
      exact k D us H5 le iu (fun few => by rw [lu]; exact (upK_nodup iw (df few)).sublist (List.Sublist.map _ (List.take_sublist _ _))) (g1.trans (Go.of g1.pn sm)) eD
end
end Wp
set_option Elab.async false
set_option linter.all false
set_option maxRecDepth 100000
set_option maxHeartbeats 4000000
namespace Wh
open PySem PySem.Spec PyProof.Rows L2
open Wp hiding Same.refl Same.trans same_new boot_all
open W8 (Ev Rp Kp Mono same_new take_snoc rW rB mW mB ev_words ev_words_eq ev_bools_eq lc_sieve)
/-! ## a row: a dict of seven names -/
def rowD (x : KD) (lo : Addr) : List (Key × V) :=
  [(Sum.inr "name", .str x.n), (Sum.inr "base", tv x.b), (Sum.inr "frozen", .bl x.f), (Sum.inr "heirs", .bl x.h), (Sum.inr "key", tv x.k), (Sum.inr "registered", .bl x.r), (Sum.inr "own", .ref lo)]
namespace Rd7
theorem m1 : ¬ ("name" : Str) = "base" := by decide +kernel
theorem m2 : ¬ ("name" : Str) = "frozen" := by decide +kernel
theorem m3 : ¬ ("name" : Str) = "heirs" := by decide +kernel
theorem m4 : ¬ ("name" : Str) = "key" := by decide +kernel
theorem m5 : ¬ ("name" : Str) = "registered" := by decide +kernel
theorem m6 : ¬ ("name" : Str) = "own" := by decide +kernel
theorem m7 : ¬ ("base" : Str) = "frozen" := by decide +kernel
theorem m8 : ¬ ("base" : Str) = "heirs" := by decide +kernel
theorem m9 : ¬ ("base" : Str) = "key" := by decide +kernel
theorem m10 : ¬ ("base" : Str) = "registered" := by decide +kernel
theorem m11 : ¬ ("base" : Str) = "own" := by decide +kernel
theorem m12 : ¬ ("frozen" : Str) = "heirs" := by decide +kernel
theorem m13 : ¬ ("frozen" : Str) = "key" := by decide +kernel
theorem m14 : ¬ ("frozen" : Str) = "registered" := by decide +kernel
theorem m15 : ¬ ("frozen" : Str) = "own" := by decide +kernel
theorem m16 : ¬ ("heirs" : Str) = "key" := by decide +kernel
theorem m17 : ¬ ("heirs" : Str) = "registered" := by decide +kernel
theorem m18 : ¬ ("heirs" : Str) = "own" := by decide +kernel
theorem m19 : ¬ ("key" : Str) = "registered" := by decide +kernel
theorem m20 : ¬ ("key" : Str) = "own" := by decide +kernel
theorem m21 : ¬ ("registered" : Str) = "own" := by decide +kernel
section
variable {x : KD} {lo : Addr}
theorem v_name : valV (rowD x lo) (Sum.inr "name") = some (.str x.n) := valV_pos rfl
theorem v_base : valV (rowD x lo) (Sum.inr "base") = some (tv x.b) := (valV_neg (kne (by decide +kernel))).trans (valV_pos rfl)
theorem v_frozen : valV (rowD x lo) (Sum.inr "frozen") = some (.bl x.f) := (valV_neg (kne (by decide +kernel))).trans ((valV_neg (kne (by decide +kernel))).trans (valV_pos rfl))
theorem v_heirs : valV (rowD x lo) (Sum.inr "heirs") = some (.bl x.h) := (valV_neg (kne (by decide +kernel))).trans ((valV_neg (kne (by decide +kernel))).trans ((valV_neg (kne (by decide +kernel))).trans (valV_pos rfl)))
theorem v_key : valV (rowD x lo) (Sum.inr "key") = some (tv x.k) := (valV_neg (kne (by decide +kernel))).trans ((valV_neg (kne (by decide +kernel))).trans ((valV_neg (kne (by decide +kernel))).trans ((valV_neg (kne (by decide +kernel))).trans (valV_pos rfl))))
theorem v_registered : valV (rowD x lo) (Sum.inr "registered") = some (.bl x.r) := (valV_neg (kne (by decide +kernel))).trans ((valV_neg (kne (by decide +kernel))).trans ((valV_neg (kne (by decide +kernel))).trans ((valV_neg (kne (by decide +kernel))).trans ((valV_neg (kne (by decide +kernel))).trans (valV_pos rfl)))))
theorem v_own : valV (rowD x lo) (Sum.inr "own") = some (.ref lo) := (valV_neg (kne (by decide +kernel))).trans ((valV_neg (kne (by decide +kernel))).trans ((valV_neg (kne (by decide +kernel))).trans ((valV_neg (kne (by decide +kernel))).trans ((valV_neg (kne (by decide +kernel))).trans ((valV_neg (kne (by decide +kernel))).trans (valV_pos rfl))))))
theorem p_name {z : Str} : putK (rowD x lo) (Sum.inr "name") (.str z) = rowD { x with n := z } lo := by
  rw [put_of v_name]
  simp [rowD, m1, m2, m3, m4, m5, m6, m7, m8, m9, m10, m11, m12, m13, m14, m15, m16, m17, m18, m19, m20, m21, Ne.symm m1, Ne.symm m2, Ne.symm m3, Ne.symm m4, Ne.symm m5, Ne.symm m6]
theorem p_base {z : Option Str} : putK (rowD x lo) (Sum.inr "base") (tv z) = rowD { x with b := z } lo := by
  rw [put_of v_base]
  simp [rowD, m1, m2, m3, m4, m5, m6, m7, m8, m9, m10, m11, m12, m13, m14, m15, m16, m17, m18, m19, m20, m21, Ne.symm m7, Ne.symm m8, Ne.symm m9, Ne.symm m10, Ne.symm m11]
theorem p_frozen {z : Bool} : putK (rowD x lo) (Sum.inr "frozen") (.bl z) = rowD { x with f := z } lo := by
  rw [put_of v_frozen]
  simp [rowD, m1, m2, m3, m4, m5, m6, m7, m8, m9, m10, m11, m12, m13, m14, m15, m16, m17, m18, m19, m20, m21, Ne.symm m12, Ne.symm m13, Ne.symm m14, Ne.symm m15]
theorem p_heirs {z : Bool} : putK (rowD x lo) (Sum.inr "heirs") (.bl z) = rowD { x with h := z } lo := by
  rw [put_of v_heirs]
  simp [rowD, m1, m2, m3, m4, m5, m6, m7, m8, m9, m10, m11, m12, m13, m14, m15, m16, m17, m18, m19, m20, m21, Ne.symm m16, Ne.symm m17, Ne.symm m18]
theorem p_key {z : Option Str} : putK (rowD x lo) (Sum.inr "key") (tv z) = rowD { x with k := z } lo := by
  rw [put_of v_key]
  simp [rowD, m1, m2, m3, m4, m5, m6, m7, m8, m9, m10, m11, m12, m13, m14, m15, m16, m17, m18, m19, m20, m21, Ne.symm m19, Ne.symm m20]
theorem p_registered {z : Bool} : putK (rowD x lo) (Sum.inr "registered") (.bl z) = rowD { x with r := z } lo := by
  rw [put_of v_registered]
  simp [rowD, m1, m2, m3, m4, m5, m6, m7, m8, m9, m10, m11, m12, m13, m14, m15, m16, m17, m18, m19, m20, m21, Ne.symm m21]
theorem p_own {z : Addr} : putK (rowD x lo) (Sum.inr "own") (.ref z) = rowD x z := by
  rw [put_of v_own]
  simp [rowD, m1, m2, m3, m4, m5, m6, m7, m8, m9, m10, m11, m12, m13, m14, m15, m16, m17, m18, m19, m20, m21]
end
end Rd7
section
variable {H : Hp} {d : Addr} {x : KD} {lo : Addr}
theorem g_name (h : H d = some (.dK (rowD x lo))) : DGet H d (.str "name") (some (.str x.n)) := by
  have q := DGet.k (H := H) (a := d) (k := Sum.inr "name") h
  rw [Rd7.v_name] at q
  exact q
theorem g_base (h : H d = some (.dK (rowD x lo))) : DGet H d (.str "base") (some (tv x.b)) := by
  have q := DGet.k (H := H) (a := d) (k := Sum.inr "base") h
  rw [Rd7.v_base] at q
  exact q
theorem g_frozen (h : H d = some (.dK (rowD x lo))) : DGet H d (.str "frozen") (some (.bl x.f)) := by
  have q := DGet.k (H := H) (a := d) (k := Sum.inr "frozen") h
  rw [Rd7.v_frozen] at q
  exact q
theorem g_heirs (h : H d = some (.dK (rowD x lo))) : DGet H d (.str "heirs") (some (.bl x.h)) := by
  have q := DGet.k (H := H) (a := d) (k := Sum.inr "heirs") h
  rw [Rd7.v_heirs] at q
  exact q
theorem g_key (h : H d = some (.dK (rowD x lo))) : DGet H d (.str "key") (some (tv x.k)) := by
  have q := DGet.k (H := H) (a := d) (k := Sum.inr "key") h
  rw [Rd7.v_key] at q
  exact q
theorem g_registered (h : H d = some (.dK (rowD x lo))) : DGet H d (.str "registered") (some (.bl x.r)) := by
  have q := DGet.k (H := H) (a := d) (k := Sum.inr "registered") h
  rw [Rd7.v_registered] at q
  exact q
theorem g_own (h : H d = some (.dK (rowD x lo))) : DGet H d (.str "own") (some (.ref lo)) := by
  have q := DGet.k (H := H) (a := d) (k := Sum.inr "own") h
  rw [Rd7.v_own] at q
  exact q
theorem s_name (h : H d = some (.dK (rowD x lo))) {z : Str} : DPut H d (.str "name") (.str z) (upd H d (.dK (rowD { x with n := z } lo))) := by
  have q := DPut.k (H := H) (a := d) (k := Sum.inr "name") (v := .str z) h (by show 7 < sizeLine; decide)
  rw [Rd7.p_name] at q
  exact q
theorem s_base (h : H d = some (.dK (rowD x lo))) {z : Option Str} : DPut H d (.str "base") (tv z) (upd H d (.dK (rowD { x with b := z } lo))) := by
  have q := DPut.k (H := H) (a := d) (k := Sum.inr "base") (v := tv z) h (by show 7 < sizeLine; decide)
  rw [Rd7.p_base] at q
  exact q
theorem s_frozen (h : H d = some (.dK (rowD x lo))) {z : Bool} : DPut H d (.str "frozen") (.bl z) (upd H d (.dK (rowD { x with f := z } lo))) := by
  have q := DPut.k (H := H) (a := d) (k := Sum.inr "frozen") (v := .bl z) h (by show 7 < sizeLine; decide)
  rw [Rd7.p_frozen] at q
  exact q
theorem s_heirs (h : H d = some (.dK (rowD x lo))) {z : Bool} : DPut H d (.str "heirs") (.bl z) (upd H d (.dK (rowD { x with h := z } lo))) := by
  have q := DPut.k (H := H) (a := d) (k := Sum.inr "heirs") (v := .bl z) h (by show 7 < sizeLine; decide)
  rw [Rd7.p_heirs] at q
  exact q
theorem s_key (h : H d = some (.dK (rowD x lo))) {z : Option Str} : DPut H d (.str "key") (tv z) (upd H d (.dK (rowD { x with k := z } lo))) := by
  have q := DPut.k (H := H) (a := d) (k := Sum.inr "key") (v := tv z) h (by show 7 < sizeLine; decide)
  rw [Rd7.p_key] at q
  exact q
theorem s_registered (h : H d = some (.dK (rowD x lo))) {z : Bool} : DPut H d (.str "registered") (.bl z) (upd H d (.dK (rowD { x with r := z } lo))) := by
  have q := DPut.k (H := H) (a := d) (k := Sum.inr "registered") (v := .bl z) h (by show 7 < sizeLine; decide)
  rw [Rd7.p_registered] at q
  exact q
theorem s_own (h : H d = some (.dK (rowD x lo))) {z : Addr} : DPut H d (.str "own") (.ref z) (upd H d (.dK (rowD x z))) := by
  have q := DPut.k (H := H) (a := d) (k := Sum.inr "own") (v := .ref z) h (by show 7 < sizeLine; decide)
  rw [Rd7.p_own] at q
  exact q
end
def rLF (K : PySem.W.Frag) : Rp FV := fun H v x => ∃ t wt, v = .ref t ∧ SqT K H t [.str x.n, .str x.m, tv x.t, .int x.d, .ref wt] ∧ SqT K H wt (x.w.map V.str)
theorem rLF_stay {K : PySem.W.Frag} {H H' : Hp} {v : V} {x : FV} (s : Stay H H') (h : rLF K H v x) : rLF K H' v x := let ⟨t, wt, e, h1, h2⟩ := h; ⟨t, wt, e, s.sqT h1, s.sqT h2⟩
theorem sLF {K : PySem.W.Frag} {H H' : Hp} {v : V} {x : FV} (s : Same H H') (h : rLF K H v x) : rLF K H' v x := rLF_stay (.kp (.of s)) h
theorem mLF (K : PySem.W.Frag) : Mono (rLF K) := fun _ _ _ _ s => rLF_stay (.kp s)
/-- what stood in a heap before -/
def cR {α : Type} (R : Rp α) (H0 : Hp) : Rp α := fun _ v x => R H0 v x
theorem mR {α : Type} {R : Rp α} {H0 : Hp} : Mono (cR R H0) := fun _ _ _ _ _ h => h
theorem evB {α : Type} {R : Rp α} {H : Hp} {us : List V} {cs : List α} (e : Ev R H us cs) (H1 : Hp) : Ev (cR R H) H1 us cs := e
def rRow (K : PySem.W.Frag) : Rp KD := fun H v x => ∃ d lo us, v = .ref d ∧ H d = some (.dK (rowD x lo)) ∧ SqL K H lo us ∧ Ev (rLF K) H us x.fs
theorem rRow_same {K : PySem.W.Frag} {H H' : Hp} {v : V} {x : KD} (s : Same H H') (h : rRow K H v x) : rRow K H' v x := by
  obtain ⟨d, lo, us, e, h1, h2, h3⟩ := h
  exact ⟨d, lo, us, e, s _ _ h1, s.seq h2, h3.same (mLF K) s⟩
/-- a list of rows -/
def RowsL (K : PySem.W.Frag) (H : Hp) (l : Addr) (ks : List KD) : Prop := ∃ us, SqL K H l us ∧ Ev (rRow K) H us ks
theorem RowsL.same {K : PySem.W.Frag} {H H' : Hp} {l : Addr} {ks : List KD} (h : RowsL K H l ks) (s : Same H H') : RowsL K H' l ks := by
  obtain ⟨us, e, n, r⟩ := h
  exact ⟨us, s.seq e, n, fun i v x a b => rRow_same s (r i v x a b)⟩
theorem find_head : ∀ {ks : List KD} {n : Str} {x : KD}, atName ks n = some x → (ks.filter fun e => decide (e.n = n)).head? = some x := by
  intro ks n x h
  rw [List.head?_filter]
  exact h
section
variable {P : Program} {w : World} {K : PySem.W.Frag} {mg : Str → Option Value} {base : Heap}
abbrev sRw : Stmt := top 41
abbrev nRw : List Str := ["_law_rows", "_law_name", "_law_row_here"]
def spRw (K : PySem.W.Frag) : Sp := fun vs H Q _ => ∃ (l : Addr) (n : Str) (ks : List KD) (x : KD), vs = [.ref l, .str n] ∧ RowsL K H l ks ∧ ks.length ≤ 100 ∧ atName ks n = some x ∧ ∀ v H', rRow K H v x → Same H H' → Q v H'
theorem scRw : FnScope nRw ["_law_rows", "_law_name"] (defScope sRw) := ⟨rfl, rfl, rfl, by decide +kernel, rfl, by decide +kernel, by decide +kernel⟩
theorem ok_Rw {f : Addr} {fd : FuncData} (F : Fun K "_law_row" "_law_row" sRw f fd) : FnOk P w K mg base CX0 1 f fd ["_law_rows", "_law_name"] (spRw K) := by
  refine F.ok scRw (fun vs H Q E h => ?_) (fun cdv A outer s H vs Q E hr h => ?_)
  · obtain ⟨l, n, ks, x, rfl, _⟩ := h
    rfl
  · obtain ⟨l, n, ks, x, rfl, ⟨us, hl, ev⟩, few, ha, k⟩ := h
    have hu := hu_of hr
    refine ⟨_, 
      (pss_one (ps_ret (pe_ix ix_list (pe_lc (own := [("_law_row_here", 2)]) (g := gName 2) (te := (tVar 2)) (tt := (tTest (tOp rEq (tDGet (tVar 2) (tC (.str "name"))) (tVar 1)))) rfl scRw.nd (pi_list (pv 0)) (blkOk_by (N := nRw) (sc := defScope sRw) (by decide +kernel)) (fun _ _ _ _ _ => pg_name (i := 2) scRw.nd rfl (Or.inl rfl)) (fun _ _ _ _ _ => pts_one (pt_cmpR op_eq (pe_dget hu (pv 2) pe_str (fun _ _ => rfl)) (pv 1) (nomark _))) (fun _ _ _ _ _ => (pv 2))) pe_int (fun _ _ => rfl)))), ?_⟩
    refine ⟨_, rfl, l, rfl, ⟨us, hl⟩, fun D hD => ?_⟩
    refine lc_sieve (R := cR (rRow K) H) (R2 := cR (rRow K) H) mR mR (fun e => decide (e.n = n)) id walk_list (by omega) (fun H' s => s.seq hl) hD ((evB ev _)) ?_ ?_ ?_
    · rintro v c H1 Rq _ s1 r kk
      obtain ⟨d, lo, ws, rfl, hd, _⟩ := rRow_same s1 (show rRow K H v c from r)
      refine ⟨_, rfl, d, _, rfl, g_name hd, _, rfl, rfl, _, rfl, ?_⟩
      rw [dec_s]
      exact kk _ (Same.refl _)
    · rintro v c H1 Rq _ _ s1 r kk
      exact ⟨_, rfl, kk _ _ (Same.refl _) r⟩
    intro H1 zs s1 hz ez
    rw [List.map_id] at ez
    have hh := find_head ha
    rw [List.head?_eq_getElem?] at hh
    have : 0 < zs.length := by
      have := (List.getElem?_eq_some_iff.mp hh).1
      rw [ez.1]
      exact this
    have h0 : zs[0]? = some zs[0] := List.getElem?_eq_getElem this
    exact ⟨D, _, _, _, rfl, rfl, SqL.of hz, atI_nat (j := 0) h0, k _ _ (ez.2 0 _ x h0 hh) s1⟩
/-- the fields of a row, those of its base ahead; b: whether it may have a base -/
def spAf (K : PySem.W.Frag) (b : Bool) : Sp := fun vs H Q _ => ∃ (l : Addr) (n : Str) (ks : List KD) (x : KD), vs = [.ref l, .str n] ∧ RowsL K H l ks ∧ ks.length ≤ 100 ∧ atName ks n = some x ∧ (∀ z, x.b = some z → b = true ∧ ∃ y, atName ks z = some y ∧ y.b = none) ∧ (allF ks x).length ≤ 1000 ∧
  ∀ (D : Addr) (us : List V) H', H D = none → H' D = some (.lst us) → Ev (rLF K) H' us (allF ks x) → Same H H' → Q (.ref D) H'
abbrev sAf : Stmt := top 42
abbrev nAf : List Str := ["_law_rows", "_law_name", "_law_row_here"]
theorem scAf : FnScope nAf ["_law_rows", "_law_name"] (defScope sAf) := ⟨rfl, rfl, rfl, by decide +kernel, rfl, by decide +kernel, by decide +kernel⟩
theorem own_call {H H2 : Hp} {l : Addr} {us : List V} {cs : List FV} {Q : VK} (h : SqL K H l us) (e : Ev (rLF K) H us cs) (k : ∀ D, H D = none → Ev (rLF K) (upd H D (.lst us)) us cs → Q (.ref D) (upd H D (.lst us))) :
    ∃ p ys, [V.ref l] = [.ref p] ∧ (SqL K H p ys ∨ SqT K H p ys) ∧ ∀ D, H D = none → Q (.ref D) (upd H D (.lst ys)) := ⟨l, us, rfl, .inl h, fun D hD => k D hD (e.same (mLF K) (same_new hD))⟩
end
end Wh
set_option Elab.async false
set_option linter.all false
set_option maxRecDepth 100000
set_option maxHeartbeats 4000000
namespace Wh
open PySem PySem.Spec PyProof.Rows L2
open Wp hiding Same.refl Same.trans same_new boot_all
open W8 (Ev Rp Kp Mono same_new take_snoc rW rB mW mB ev_words ev_words_eq ev_bools_eq lc_sieve)
/-! ## all fields of a row -/
section
variable {P : Program} {w : World} {K : PySem.W.Frag} {mg : Str → Option Value} {base : Heap}
theorem ok_Af0 {f f1 : Addr} {fd fd1 : FuncData} (F : Fun K "_law_all_fields" "_law_all_fields" sAf f fd) (B : Bn mg) (RW_ : Known P w K mg base CX0 1 "_law_row" ["_law_rows", "_law_name"] (spRw K) f1 fd1) : FnOk P w K mg base CX0 2 f fd ["_law_rows", "_law_name"] (spAf K false) := by
  refine F.ok scAf (fun vs H Q E h => ?_) (fun cdv A outer s H vs Q E hr h => ?_)
  · obtain ⟨l, n, ks, x, rfl, _⟩ := h
    rfl
  · obtain ⟨l, n, ks, x, rfl, R, few, ha, hb, few2, k⟩ := h
    have hu := hu_of hr
    refine ⟨_, 
      (pss_cons (ps_set (i := 2) scAf.nd rfl (.inl rfl) (pe_call RW_.ok (hr.mono (by decide)) rfl RW_.mg RW_.kp RW_.bi .nil pass0 (pa_cons (pv 0) (pa_cons (pv 1) pa_nil))))
      (pss_cons (ps_if (pt_cmp (pc_isN (pe_dget hu (pv 2) pe_str (fun _ _ => rfl)))) 
        (pss_one (ps_ret (pe_callTy call_list_of (by rfl) B.list PyProof.Rows.boot_list (pa_cons (pe_dget hu (pv 2) pe_str (fun _ _ => rfl)) pa_nil)))) pss_nil)
      (pss_one ps_dead))), ?_⟩
    refine ⟨_, rfl, _, rfl, l, n, ks, x, rfl, R, few, ha, fun v H1 r1 s1 => ?_⟩
    obtain ⟨d, lo, us, rfl, hd, hlo, ev⟩ := rRow_same s1 r1
    have nb : x.b = none := by
      cases e : x.b with
      | none => rfl
      | some z => exact absurd (hb z e).1 (by decide)
    have ea : allF ks x = x.fs := by unfold allF; rw [nb]
    rw [ea] at k
    refine ⟨_, rfl, d, _, rfl, g_base hd, _, rfl, ?_⟩
    rw [nb]
    exact iteT ⟨_, rfl, d, _, rfl, g_own hd, lo, us, rfl, .inl hlo, fun D hD => k D us _ (s1.free hD) upd_same (ev.same (mLF K) (same_new hD)) (s1.trans (same_new hD))⟩
end

section
variable {P : Program} {w : World} {K : PySem.W.Frag} {mg : Str → Option Value} {base : Heap}
theorem ok_Af {f f1 : Addr} {fd fd1 : FuncData} (F : Fun K "_law_all_fields" "_law_all_fields" sAf f fd) (B : Bn mg) (RW_ : Known P w K mg base CX0 1 "_law_row" ["_law_rows", "_law_name"] (spRw K) f1 fd1) (gl : mg "_law_all_fields" = some (.ref f)) (kp : PySem.W.keepIn K (.ref f) = true) (bi : Binds K fd ["_law_rows", "_law_name"] []) :
    FnOk P w K mg base CX0 3 f fd ["_law_rows", "_law_name"] (spAf K true) := by
  have AF : Known P w K mg base CX0 2 "_law_all_fields" ["_law_rows", "_law_name"] (spAf K false) f fd := ⟨ok_Af0 F B RW_, gl, kp, bi⟩
  refine F.ok scAf (fun vs H Q E h => ?_) (fun cdv A outer s H vs Q E hr h => ?_)
  · obtain ⟨l, n, ks, x, rfl, _⟩ := h
    rfl
  · obtain ⟨l, n, ks, x, rfl, R, few, ha, hb, few2, k⟩ := h
    have hu := hu_of hr
    refine ⟨_, 
      (pss_cons (ps_set (i := 2) scAf.nd rfl (.inl rfl) (pe_call RW_.ok (hr.mono (by decide)) rfl RW_.mg RW_.kp RW_.bi .nil pass0 (pa_cons (pv 0) (pa_cons (pv 1) pa_nil))))
      (pss_cons (ps_if (pt_cmp (pc_isN (pe_dget hu (pv 2) pe_str (fun _ _ => rfl)))) 
        (pss_one (ps_ret (pe_callTy call_list_of (by rfl) B.list PyProof.Rows.boot_list (pa_cons (pe_dget hu (pv 2) pe_str (fun _ _ => rfl)) pa_nil)))) pss_nil)
      (pss_one (ps_ret (pe_op op_cat (pe_call AF.ok (hr.mono (by decide)) rfl AF.mg AF.kp AF.bi .nil pass0 (pa_cons (pv 0) (pa_cons (pe_dget hu (pv 2) pe_str (fun _ _ => rfl)) pa_nil))) (pe_callTy call_list_of (by rfl) B.list PyProof.Rows.boot_list (pa_cons (pe_dget hu (pv 2) pe_str (fun _ _ => rfl)) pa_nil))))))), ?_⟩
    refine ⟨_, rfl, _, rfl, l, n, ks, x, rfl, R, few, ha, fun v H1 r1 s1 => ?_⟩
    obtain ⟨d, lo, us, rfl, hd, hlo, ev⟩ := rRow_same s1 r1
    refine ⟨_, rfl, d, _, rfl, g_base hd, _, rfl, ?_⟩
    cases eb : x.b with
    | none =>
      have ea : allF ks x = x.fs := by unfold allF; rw [eb]
      rw [ea] at k
      exact iteT ⟨_, rfl, d, _, rfl, g_own hd, lo, us, rfl, .inl hlo, fun D hD => k D us _ (s1.free hD) upd_same (ev.same (mLF K) (same_new hD)) (s1.trans (same_new hD))⟩
    | some z =>
      obtain ⟨_, y, hy, yb⟩ := hb z eb
      have gb := g_base hd
      rw [eb] at gb
      have ey : allF ks y = y.fs := by unfold allF; rw [yb]
      have ea : allF ks x = y.fs ++ x.fs := by
        have h2 : (ks.find? fun e => decide (e.n = z)) = some y := hy
        simp only [allF, baseFs, eb, h2]
        rfl
      rw [ea] at k few2
      rw [List.length_append] at few2
      refine iteF ⟨_, rfl, _, rfl, d, _, rfl, gb, l, z, ks, y, rfl, R.same s1, few, hy, fun q e => absurd (yb.symm.trans e) (by simp), by rw [ey]; omega, fun D ws H2 hD hws ew s2 => ?_⟩
      rw [ey] at ew
      refine ⟨_, rfl, d, _, rfl, g_own (s2 _ _ hd), lo, us, rfl, .inl (s2.seq hlo), fun D2 hD2 => ?_⟩
      have s3 : Same H2 (upd H2 D2 (.lst us)) := same_new hD2
      refine ⟨D, D2, ws, us, rfl, rfl, s3 _ _ hws, upd_same, by rw [ew.1, ev.1, sizeLine_eq]; omega, fun D3 hD3 => ?_⟩
      have s4 := same_new (o := .lst (ws ++ us)) hD3
      exact k D3 (ws ++ us) _ (Same.free (s1.trans (s2.trans s3)) hD3) upd_same (((ew.same (mLF K) s3).append (ev.same (mLF K) (s2.trans s3))).same (mLF K) s4) (s1.trans (s2.trans (s3.trans s4)))
end
end Wh
set_option Elab.async false
set_option linter.all false
set_option maxRecDepth 100000
set_option maxHeartbeats 4000000
namespace Wh
open PySem PySem.Spec PyProof.Rows L2
open Wp hiding Same.refl Same.trans same_new boot_all
open W8 (Ev Rp Kp Mono same_new take_snoc rW rB mW mB ev_words ev_words_eq ev_bools_eq lc_sieve)
/-! ## rows that are right: what leads where -/
structure RowsOk (ks : List KD) : Prop where
  nd : (ks.map (·.n)).Nodup
  base : ∀ x ∈ ks, ∀ b, x.b = some b → ∃ y, atName ks b = some y ∧ y.b = none
  aim : Aimed ks
  few : ∀ x ∈ ks, (allF ks x).length ≤ 20
  n12 : ks.length ≤ 12
theorem atName_of {ks : List KD} {x : KD} (nd : (ks.map (·.n)).Nodup) (mx : x ∈ ks) : atName ks x.n = some x := by
  obtain ⟨i, hi, e⟩ := List.getElem_of_mem mx
  exact find_at nd (by rw [List.getElem?_eq_getElem hi, e])
theorem atName_mem {ks : List KD} {n : Str} {x : KD} (h : atName ks n = some x) : x ∈ ks ∧ x.n = n := by
  unfold atName at h
  have := List.find?_some h
  exact ⟨List.mem_of_find?_eq_some h, of_decide_eq_true (by simpa using this)⟩
def admB (t : Str) (x : KD) : Bool := decide (t = ("any" : Str)) || (decide (t = x.n) || decide (some t = x.b))
theorem admB_let {ks : List KD} {t : Str} {x : KD} (nd : (ks.map (·.n)).Nodup) (mx : x ∈ ks) : letB ks t x.n = admB t x := by
  unfold letB admB baseOf
  have h : (ks.find? fun e => decide (e.n = x.n)) = some x := atName_of nd mx
  rw [h, Bool.or_assoc]
  rfl
theorem in_two {t n : Str} {b : Option Str} : inV (.str t) [.str n, tv b] = (decide (t = n) || decide (some t = b)) := by
  have e : ∀ a : Str, (a == t) = decide (t = a) := fun a => by rw [Bool.eq_iff_iff, beq_iff_eq, decide_eq_true_eq]; exact eq_comm
  cases b with
  | none =>
    show ((n == t) || (false || false)) = (decide (t = n) || decide (some t = none))
    rw [e, decide_eq_false (p := some t = none) (by simp)]
    rfl
  | some b =>
    show ((n == t) || ((b == t) || false)) = (decide (t = n) || decide (some t = some b))
    rw [e, e, Bool.or_false]
    congr 1
    simp
theorem adm_mem {ks : List KD} {t : Str} {y : KD} (nd : (ks.map (·.n)).Nodup) (my : y ∈ ks) : decide (y.n ∈ (ks.filter (admB t)).map (·.n)) = letB ks t y.n := by
  rw [admB_let nd my, Bool.eq_iff_iff, decide_eq_true_eq]
  constructor
  · intro h
    obtain ⟨z, mz, ez⟩ := List.mem_map.mp h
    obtain ⟨mz, az⟩ := List.mem_filter.mp mz
    have h1 := atName_of nd my
    have h2 := atName_of nd mz
    rw [show z.n = y.n from ez, h1] at h2
    cases h2
    exact az
  · exact fun h => List.mem_map_of_mem (List.mem_filter.mpr ⟨my, h⟩)
theorem aims_snoc {gs : List FV} {g : FV} : aims (gs ++ [g]) = aims gs ++ (if slotB g = true then [g.t.getD ""] else []) := by
  unfold aims
  rw [List.filter_append, List.map_append]
  congr 1
  by_cases e : slotB g = true
  · simp [e]
  · simp [e]
section
variable {P : Program} {w : World} {K : PySem.W.Frag} {mg : Str → Option Value} {base : Heap}
abbrev sAd : Stmt := top 43
abbrev nAd : List Str := ["_law_rows", "_law_own_target", "_law_row_here"]
def spAd (K : PySem.W.Frag) : Sp := fun vs H Q _ => ∃ (l : Addr) (t : Str) (ks : List KD), vs = [.ref l, .str t] ∧ RowsL K H l ks ∧ ks.length ≤ 100 ∧
  ∀ (D : Addr) H', H' D = some (.lst (((ks.filter (admB t)).map (·.n)).map V.str)) → Same H H' → Q (.ref D) H'
theorem scAd : FnScope nAd ["_law_rows", "_law_own_target"] (defScope sAd) := ⟨rfl, rfl, rfl, by decide +kernel, rfl, by decide +kernel, by decide +kernel⟩
theorem ok_Ad {f : Addr} {fd : FuncData} (F : Fun K "_law_admitted" "_law_admitted" sAd f fd) : FnOk P w K mg base CX0 1 f fd ["_law_rows", "_law_own_target"] (spAd K) := by
  refine F.ok scAd (fun vs H Q E h => ?_) (fun cdv A outer s H vs Q E hr h => ?_)
  · obtain ⟨l, n, ks, rfl, _⟩ := h
    rfl
  · obtain ⟨l, t, ks, rfl, ⟨us, hl, ev⟩, few, k⟩ := h
    have hu := hu_of hr
    refine ⟨_, 
      (pss_one (ps_ret (pe_lc (own := [("_law_row_here", 2)]) (g := gName 2) (te := (tDGet (tVar 2) (tC (.str "name")))) (tt := (tOr (tTest (tOp rEq (tVar 1) (tC (.str "any")))) (tTest (tOp (rIn K false) (tVar 1) (tLst (tCons (tDGet (tVar 2) (tC (.str "name"))) (tCons (tDGet (tVar 2) (tC (.str "base"))) tNil))))))) rfl scAd.nd (pi_list (pv 0)) (blkOk_by (N := nAd) (sc := defScope sAd) (by decide +kernel)) (fun _ _ _ _ _ => pg_name (i := 2) scAd.nd rfl (Or.inl rfl)) (fun _ _ _ _ _ => pts_one (PW.pt (pw_or (pt_cmpR op_eq (pv 1) pe_str (nomark _)) (pw_or1 (pt_cmpR (show OpR _ (compareOp .In) (rIn K false) from op_in_seq) (pv 1) (pe_lst (pa_cons (pe_dget hu (pv 2) pe_str (fun _ _ => rfl)) (pa_cons (pe_dget hu (pv 2) pe_str (fun _ _ => rfl)) pa_nil))) (by rfl)))))) (fun _ _ _ _ _ => (pe_dget hu (pv 2) pe_str (fun _ _ => rfl)))))), ?_⟩
    refine ⟨_, rfl, l, rfl, ⟨us, hl⟩, fun D hD => ?_⟩
    refine lc_sieve (R := cR (rRow K) H) (R2 := rW) mR mW (admB t) (fun x => x.n) (cs := ks) walk_list (by omega) (fun H' s => s.seq hl) hD (evB ev _) ?_ ?_ ?_
    · rintro v c H1 Rq _ s1 r kk
      obtain ⟨d, lo, ws, rfl, hd, _⟩ := rRow_same s1 (show rRow K H v c from r)
      refine ⟨_, rfl, rfl, _, rfl, ?_⟩
      rw [dec_s]
      unfold admB at kk
      cases e1 : decide (t = ("any" : Str)) with
      | true =>
        rw [e1] at kk
        exact iteT (kk _ (Same.refl _))
      | false =>
        rw [e1] at kk
        refine iteF ⟨_, rfl, _, rfl, d, _, rfl, g_name hd, _, rfl, d, _, rfl, g_base hd, by show 2 ≤ sizeLine; decide, fun p hp => ?_⟩
        refine ⟨p, _, rfl, .inl (SqL.of upd_same), rfl, by cases c.b <;> rfl, _, rfl, ?_⟩
        show Rq (inV (.str t) [.str c.n, tv c.b]) _
        rw [in_two]
        exact kk _ (same_new hp)
    · rintro v c H1 Rq _ _ s1 r kk
      obtain ⟨d, lo, ws, rfl, hd, _⟩ := rRow_same s1 (show rRow K H v c from r)
      exact ⟨_, rfl, d, _, rfl, g_name hd, kk _ _ (Same.refl _) rfl⟩
    intro H1 zs s1 hz ez
    have := ev_words_eq ez
    subst this
    exact k D H1 hz s1
abbrev sLe : Stmt := top 44
abbrev nLe : List Str := ["_law_rows", "_law_name", "_law_found", "_law_field_here", "_law_row_here"]
def spLe (K : PySem.W.Frag) : Sp := fun vs H Q _ => ∃ (l : Addr) (ks : List KD) (x : KD), vs = [.ref l, .str x.n] ∧ RowsL K H l ks ∧ RowsOk ks ∧ x ∈ ks ∧
  ∀ (D : Addr) H', H' D = some (.lst ((leadOf ks x.n).map V.str)) → Same H H' → Q (.ref D) H'
theorem scLe : FnScope nLe ["_law_rows", "_law_name"] (defScope sLe) := ⟨rfl, rfl, rfl, by decide +kernel, rfl, by decide +kernel, by decide +kernel⟩
theorem ok_Le {f f1 f2 : Addr} {fd fd1 fd2 : FuncData} (F : Fun K "_law_leads" "_law_leads" sLe f fd) (B : Bn mg) (AF : Known P w K mg base CX0 3 "_law_all_fields" ["_law_rows", "_law_name"] (spAf K true) f1 fd1) (AD : Known P w K mg base CX0 1 "_law_admitted" ["_law_rows", "_law_own_target"] (spAd K) f2 fd2) : FnOk P w K mg base CX0 4 f fd ["_law_rows", "_law_name"] (spLe K) := by
  refine F.ok scLe (fun vs H Q E h => ?_) (fun cdv A outer s H vs Q E hr h => ?_)
  · obtain ⟨l, ks, x, rfl, _⟩ := h
    rfl
  · obtain ⟨l, ks, x, rfl, R, ok, mx, k⟩ := h
    have hu := hu_of hr
    refine ⟨_, 
      (pss_cons (ps_set (i := 2) scLe.nd rfl (.inr rfl) (pe_lst pa_nil))
      (pss_cons (ps_for PassesOwn.never rfl (pi_list (pe_call AF.ok (hr.mono (by decide)) rfl AF.mg AF.kp AF.bi .nil pass0 (pa_cons (pv 0) (pa_cons (pv 1) pa_nil)))) (pg_name (i := 3) scLe.nd rfl (Or.inl rfl)) 
        (pss_one (ps_if (pt_cmpR op_ne (pe_ix ix_tup (pv 3) pe_int (fun _ _ => rfl)) pe_str (nomark _)) 
          (pss_one (ps_set (i := 2) scLe.nd rfl (.inr rfl) (pe_op op_cat (pv 2) (pe_call AD.ok (hr.mono (by decide)) rfl AD.mg AD.kp AD.bi .nil pass0 (pa_cons (pv 0) (pa_cons (pe_ix ix_tup (pv 3) pe_int (fun _ _ => rfl)) pa_nil)))))) pss_nil)))
      (pss_one (ps_ret (pe_lc (own := [("_law_row_here", 4)]) (g := gName 4) (te := (tDGet (tVar 4) (tC (.str "name")))) (tt := (tTest (tOp (rIn K false) (tDGet (tVar 4) (tC (.str "name"))) (tVar 2)))) rfl scLe.nd (pi_list (pv 0)) (blkOk_by (N := nLe) (sc := defScope sLe) (by decide +kernel)) (fun _ _ _ _ _ => pg_name (i := 4) scLe.nd rfl (Or.inl rfl)) (fun _ _ _ _ _ => pts_one (pt_cmpR (show OpR _ (compareOp .In) (rIn K false) from op_in_seq) (pe_dget hu (pv 4) pe_str (fun _ _ => rfl)) (pv 2) (by rfl))) (fun _ _ _ _ _ => (pe_dget hu (pv 4) pe_str (fun _ _ => rfl)))))))), ?_⟩
    refine ⟨by show 0 ≤ sizeLine; decide, fun F0 hF0 => ?_⟩
    have s0 : Same H (upd H F0 (.lst [])) := same_new hF0
    have f20 := ok.few x mx
    have n12 := ok.n12
    refine ⟨_, rfl, _, rfl, l, x.n, ks, x, rfl, R.same s0, by omega, atName_of ok.nd mx, fun z e => ⟨rfl, ok.base x mx z e⟩, by omega, fun D us H1 hD hus evu s1 => ?_⟩
    refine ⟨D, rfl, ⟨us, SqL.of hus⟩, ?_⟩
    refine for_it (walk_list (xs := us)) (fun j σ H' => ∃ (v3 : Option V) (Fd : Addr) (ns : List Str), σ = [some (.ref l), some (.str x.n), some (.ref Fd), v3, none] ∧ Same H1 H' ∧ H' Fd = some (.lst (ns.map V.str)) ∧ ns.length ≤ 12 * j ∧
        ∀ y ∈ ks, decide (y.n ∈ ns) = ((aims ((allF ks x).take j)).map fun t => letB ks t y.n).any id)
      ⟨none, F0, [], rfl, Same.refl _, s1 _ _ upd_same, by simp, fun y _ => by simp [aims]⟩ (fun i σ H' _ ⟨_, _, _, _, e, _⟩ => SqL.of (e _ _ hus)) ?_ ?_
    · rintro j u σ H2 _ hj ⟨v3, Fd, ns, rfl, s2, hFd, ln, mem⟩ ⟨rfl, hu0⟩
      obtain ⟨g, hg, t, wt, rfl, ht, _⟩ := (evu.same (mLF K) s2).at hu0
      have tk : (allF ks x).take (j + 1) = (allF ks x).take j ++ [g] := take_snoc hg
      refine ⟨_, rfl, t, _, _, _, rfl, rfl, ht, atI_nat (j := 1) rfl, rfl, _, rfl, ?_⟩
      rw [dec_s]
      show if slotB g = true then _ else _
      have mg : g ∈ allF ks x := List.mem_of_getElem? hg
      cases sg : slotB g with
      | false =>
        refine iteF ⟨_, Fd, ns, rfl, s2, hFd, by omega, fun y my => ?_⟩
        rw [tk, aims_snoc, sg]
        simpa using mem y my
      | true =>
        obtain ⟨tg, eg⟩ := ok.aim x mx g mg sg
        rw [eg] at ht
        refine iteT ⟨_, rfl, _, rfl, _, rfl, t, _, _, _, rfl, rfl, ht, atI_nat (j := 2) rfl, l, tg, ks, rfl, R.same (s0.trans (s1.trans s2)), by omega, fun D2 H3 hD2 s3 => ?_⟩
        have lf : ((ks.filter (admB tg)).map (·.n)).length ≤ 12 := by
          rw [List.length_map]
          exact Nat.le_trans (List.length_filter_le _ _) n12
        refine ⟨Fd, D2, _, _, rfl, rfl, s3 _ _ hFd, hD2, by rw [List.length_map, List.length_map, sizeLine_eq]; have := (List.getElem?_eq_some_iff.mp hg).1; omega, fun p hp => ?_⟩
        have s4 := same_new (o := .lst (ns.map V.str ++ ((ks.filter (admB tg)).map (·.n)).map V.str)) hp
        refine ⟨_, p, ns ++ (ks.filter (admB tg)).map (·.n), rfl, s2.trans (s3.trans s4), by rw [upd_same, List.map_append], by rw [List.length_append]; omega, fun y my => ?_⟩
        rw [tk, aims_snoc, sg, eg]
        have q1 := mem y my
        have q2 := adm_mem (t := tg) ok.nd my
        rw [if_pos rfl, List.map_append, List.any_append, ← q1]
        show _ = (decide (y.n ∈ ns) || (letB ks tg y.n || false))
        rw [← q2, Bool.or_false, Bool.eq_iff_iff, Bool.or_eq_true, decide_eq_true_eq, decide_eq_true_eq, decide_eq_true_eq]
        exact List.mem_append
    · rintro σ H2 ⟨v3, Fd, ns, rfl, s2, hFd, ln, mem⟩
      have s02 := s0.trans (s1.trans s2)
      obtain ⟨rs, hl, ev⟩ := R.same s02
      have lus : us.length ≤ 20 := by rw [evu.1]; exact f20
      refine ⟨_, rfl, l, rfl, ⟨rs, hl⟩, fun D2 hD2 => ?_⟩
      refine lc_sieve (R := cR (rRow K) H2) (R2 := rW) mR mW (fun y => decide (y.n ∈ ns)) (fun y => y.n) (cs := ks) walk_list (by omega) (fun H' s => s.seq hl) hD2 (evB ev _) ?_ ?_ ?_
      · rintro v c H3 Rq _ s3 r kk
        obtain ⟨d, lo, ws, rfl, hd, _⟩ := rRow_same s3 (show rRow K H2 v c from r)
        refine ⟨_, rfl, d, _, rfl, g_name hd, _, rfl, Fd, _, rfl, .inl (SqL.of (s3 _ _ hFd)), rfl, flat_strs _, _, rfl, ?_⟩
        show Rq (inV (.str c.n) (ns.map V.str)) _
        rw [mem_in]
        exact kk _ (Same.refl _)
      · rintro v c H3 Rq _ _ s3 r kk
        obtain ⟨d, lo, ws, rfl, hd, _⟩ := rRow_same s3 (show rRow K H2 v c from r)
        exact ⟨_, rfl, d, _, rfl, g_name hd, kk _ _ (Same.refl _) rfl⟩
      intro H3 zs s3 hz ez
      have := ev_words_eq ez
      subst this
      refine k D2 H3 ?_ (s02.trans s3)
      rw [hz]
      congr 3
      unfold leadOf
      rw [atName_of ok.nd mx]
      show (ks.filter fun y => decide (y.n ∈ ns)).map (·.n) = ledBy ks x
      unfold ledBy
      rw [List.filter_map]
      congr 1
      refine List.filter_congr fun y my => ?_
      rw [mem y my, evu.1, List.take_length]
      rfl
end
end Wh
set_option Elab.async false
set_option linter.all false
set_option maxRecDepth 100000
set_option maxHeartbeats 4000000
namespace Wh
open PySem PySem.Spec PyProof.Rows L2
open Wp hiding Same.refl Same.trans same_new boot_all
open W8 (Ev Rp Kp Mono same_new take_snoc rW rB mW mB ev_words ev_words_eq ev_bools_eq lc_sieve)
theorem leadOf_sub {ks : List KD} {n m : Str} (h : m ∈ leadOf ks n) : m ∈ ks.map (·.n) := by
  unfold leadOf at h
  cases e : atName ks n with
  | none => rw [e] at h; cases h
  | some x =>
    rw [e] at h
    exact (List.mem_filter.mp (show m ∈ ledBy ks x from h)).1
theorem filter_lt {α : Type} {p q : α → Bool} : ∀ {l : List α}, (∀ x ∈ l, p x = true → q x = true) → (∃ x ∈ l, p x = false ∧ q x = true) → (l.filter p).length + 1 ≤ (l.filter q).length
  | [], _, ⟨_, h, _⟩ => by cases h
  | a :: l, s, ⟨x, mx, px, qx⟩ => by
    have le : (l.filter p).length ≤ (l.filter q).length := by
      have s2 : ∀ y ∈ l, p y = true → q y = true := fun y my => s y (List.mem_cons_of_mem _ my)
      clear s mx
      induction l with
      | nil => exact Nat.le_refl _
      | cons b l ih =>
        have := ih fun y my => s2 y (List.mem_cons_of_mem _ my)
        have hb := s2 b (List.mem_cons_self ..)
        rw [List.filter_cons, List.filter_cons]
        cases e1 : p b with
        | true => rw [hb e1]; simp; exact this
        | false =>
          cases e2 : q b with
          | true => simp; omega
          | false => simp; exact this
    have ha := s a (List.mem_cons_self ..)
    rw [List.filter_cons, List.filter_cons]
    rcases List.mem_cons.mp mx with rfl | mx
    · rw [px, qx]
      simp
      exact le
    · have ih := filter_lt (l := l) (fun y my => s y (List.mem_cons_of_mem _ my)) ⟨x, mx, px, qx⟩
      cases e1 : p a with
      | true => rw [ha e1]; simp; exact ih
      | false =>
        cases e2 : q a with
        | true => simp; omega
        | false => simp; exact ih
/-- names that were reached so far -/
structure Far (ks : List KD) (n : Str) (j : Nat) (fs : List Str) : Prop where
  fl : ∃ p : Str → Bool, fs = (ks.map (·.n)).filter p
  h1 : ∀ m ∈ fs, Rch (leadOf ks) n m
  h2 : ∀ m ∈ leadOf ks n, m ∈ fs
  gr : (∀ m ∈ fs, ∀ y ∈ leadOf ks m, y ∈ fs) ∨ j ≤ fs.length
theorem Far.done {ks : List KD} {n : Str} {fs : List Str} (h : Far ks n ks.length fs) : fs = farK ks n := by
  obtain ⟨⟨p, rfl⟩, h1, h2, gr⟩ := h
  have cl : ∀ m ∈ (ks.map (·.n)).filter p, ∀ y ∈ leadOf ks m, y ∈ (ks.map (·.n)).filter p := by
    rcases gr with gr | gr
    · exact gr
    · intro m _ y hy
      have e : (ks.map (·.n)).filter p = ks.map (·.n) := by
        refine List.Sublist.eq_of_length_le (List.filter_sublist ..) ?_
        rw [List.length_map]
        exact gr
      rw [e]
      exact leadOf_sub hy
  unfold farK
  rw [← far_of h1 h2 cl]
  exact List.filter_congr fun x mx => by
    rw [Bool.eq_iff_iff, decide_eq_true_eq, List.mem_filter]
    exact ⟨fun h => ⟨mx, h⟩, fun h => h.2⟩
theorem Far.step {ks : List KD} {n : Str} {j : Nat} {fs ms : List Str} (h : Far ks n j fs) (hm : ∀ m, m ∈ ms ↔ (m ∈ fs ∨ ∃ o ∈ fs, m ∈ leadOf ks o)) : Far ks n (j + 1) ((ks.map (·.n)).filter fun m => decide (m ∈ ms)) := by
  obtain ⟨⟨p, rfl⟩, h1, h2, gr⟩ := h
  have mem : ∀ m, m ∈ (ks.map (·.n)).filter (fun m => decide (m ∈ ms)) ↔ m ∈ ms := fun m => by
    rw [List.mem_filter, decide_eq_true_eq]
    refine ⟨fun h => h.2, fun h => ⟨?_, h⟩⟩
    rcases (hm m).mp h with h | ⟨o, _, h⟩
    · exact (List.mem_filter.mp h).1
    · exact leadOf_sub h
  refine ⟨⟨_, rfl⟩, fun m h => ?_, fun m h => (mem m).mpr ((hm m).mpr (.inl (h2 m h))), ?_⟩
  · rcases (hm m).mp ((mem m).mp h) with h | ⟨o, ho, h⟩
    · exact h1 m h
    · exact .more (h1 o ho) h
  · by_cases c : ∀ m ∈ (ks.map (·.n)).filter p, ∀ y ∈ leadOf ks m, y ∈ (ks.map (·.n)).filter p
    · refine .inl fun m h y hy => (mem y).mpr ((hm y).mpr (.inl ?_))
      rcases (hm m).mp ((mem m).mp h) with h | ⟨o, ho, h⟩
      · exact c m h y hy
      · exact c m (c o ho m h) y hy
    · right
      have gr := gr.resolve_left c
      have ⟨m, hm2⟩ := Classical.not_forall.mp c
      have ⟨mf, hm3⟩ := Classical.not_imp.mp hm2
      have ⟨y, hy⟩ := Classical.not_forall.mp hm3
      have ⟨yl, yn⟩ := Classical.not_imp.mp hy
      refine Nat.le_trans (Nat.succ_le_succ gr) (filter_lt (fun x mx px => ?_) ⟨y, leadOf_sub yl, ?_, ?_⟩)
      · exact decide_eq_true ((hm x).mpr (.inl (List.mem_filter.mpr ⟨mx, px⟩)))
      · cases e : p y with
        | false => rfl
        | true => exact absurd (List.mem_filter.mpr ⟨leadOf_sub yl, e⟩) yn
      · exact decide_eq_true ((hm y).mpr (.inr ⟨m, mf, yl⟩))
section
variable {P : Program} {w : World} {K : PySem.W.Frag} {mg : Str → Option Value} {base : Heap}
abbrev sFr : Stmt := top 45
abbrev nFr : List Str := ["_law_rows", "_law_name", "_law_found", "_law_turn", "_law_more", "_law_one", "_law_row_here"]
def spFr (K : PySem.W.Frag) : Sp := fun vs H Q _ => ∃ (l : Addr) (ks : List KD) (x : KD), vs = [.ref l, .str x.n] ∧ RowsL K H l ks ∧ RowsOk ks ∧ x ∈ ks ∧
  ∀ (D : Addr) H', H' D = some (.lst ((farK ks x.n).map V.str)) → Same H H' → Q (.ref D) H'
theorem scFr : FnScope nFr ["_law_rows", "_law_name"] (defScope sFr) := ⟨rfl, rfl, rfl, by decide +kernel, rfl, by decide +kernel, by decide +kernel⟩
theorem ok_Fr {f f1 : Addr} {fd fd1 : FuncData} (F : Fun K "_law_leads_far" "_law_leads_far" sFr f fd) (B : Bn mg) (LE : Known P w K mg base CX0 4 "_law_leads" ["_law_rows", "_law_name"] (spLe K) f1 fd1) : FnOk P w K mg base CX0 5 f fd ["_law_rows", "_law_name"] (spFr K) := by
  refine F.ok scFr (fun vs H Q E h => ?_) (fun cdv A outer s H vs Q E hr h => ?_)
  · obtain ⟨l, ks, x, rfl, _⟩ := h
    rfl
  · obtain ⟨l, ks, x, rfl, R, ok, mx, k⟩ := h
    have hu := hu_of hr
    have n12 := ok.n12
    refine ⟨_, 
      (pss_cons (ps_set (i := 2) scFr.nd rfl (.inl rfl) (pe_call LE.ok (hr.mono (by decide)) rfl LE.mg LE.kp LE.bi .nil pass0 (pa_cons (pv 0) (pa_cons (pv 1) pa_nil))))
      (pss_cons (ps_for PassesOwn.never rfl (pi_range1 rfl B.range (pa_cons (pe_callB call_len_seq (by rfl) B.len PySem.boot_len (pa_cons (pv 0) pa_nil)) pa_nil)) (pg_name (i := 3) scFr.nd rfl (Or.inl rfl)) 
        (pss_cons (ps_set (i := 4) scFr.nd rfl (.inr rfl) (pe_callTy call_list_of (by rfl) B.list PyProof.Rows.boot_list (pa_cons (pv 2) pa_nil)))
        (pss_cons (ps_for PassesOwn.never rfl (pi_list (pv 2)) (pg_name (i := 5) scFr.nd rfl (Or.inl rfl)) 
          (pss_one (ps_set (i := 4) scFr.nd rfl (.inr rfl) (pe_op op_cat (pv 4) (pe_call LE.ok (hr.mono (by decide)) rfl LE.mg LE.kp LE.bi .nil pass0 (pa_cons (pv 0) (pa_cons (pv 5) pa_nil)))))))
        (pss_one (ps_setLc (i := 2) (own := [("_law_row_here", 6)]) (g := gName 6) (te := (tDGet (tVar 6) (tC (.str "name")))) (tt := (tTest (tOp (rIn K false) (tDGet (tVar 6) (tC (.str "name"))) (tVar 4)))) rfl scFr.nd rfl rfl (sw_true rfl rfl rfl (by decide +kernel)) (pi_list (pv 0)) (blkOk_by (N := nFr) (sc := defScope sFr) (by decide +kernel)) (fun _ _ _ _ _ => pg_name (i := 6) scFr.nd rfl (Or.inl rfl)) (fun _ _ _ _ _ => pts_one (pt_cmpR (show OpR _ (compareOp .In) (rIn K false) from op_in_seq) (pe_dget hu (pv 6) pe_str (fun _ _ => rfl)) (pv 4) (by rfl))) (fun _ _ _ _ _ => (pe_dget hu (pv 6) pe_str (fun _ _ => rfl))))))))
      (pss_one (ps_ret (pv 2))))), ?_⟩
    refine ⟨_, rfl, _, rfl, l, ks, x, rfl, R, ok, mx, fun D H1 hD s1 => ?_⟩
    obtain ⟨us, hus, ev⟩ := R.same s1
    have lus := ev.1
    have lnames : ∀ fs : List Str, (∃ p, fs = (ks.map (·.n)).filter p) → fs.length ≤ 12 := by
      rintro _ ⟨p, rfl⟩
      refine Nat.le_trans (List.length_filter_le _ _) ?_
      rw [List.length_map]
      exact n12
    have l0 : ∃ p, leadOf ks x.n = (ks.map (·.n)).filter p := by
      unfold leadOf
      rw [atName_of ok.nd mx]
      exact ⟨_, rfl⟩
    refine ⟨_, rfl, l, us, rfl, .inl hus, us.length, rfl, by omega, by omega, ?_⟩
    refine for_it walk_range (fun j σ H' => ∃ (v3 v4 v5 : Option V) (Fd : Addr) (fs : List Str), σ = [some (.ref l), some (.str x.n), some (.ref Fd), v3, v4, v5, none] ∧ Same H1 H' ∧ H' Fd = some (.lst (fs.map V.str)) ∧ Far ks x.n j fs)
      ⟨none, none, none, D, leadOf ks x.n, rfl, Same.refl _, hD, l0, fun m h => .one h, fun m h => h, .inr (Nat.zero_le _)⟩ (fun _ _ _ _ _ => trivial) ?_ ?_
    · rintro j y σ _ H2 hj ⟨v3, v4, v5, Fd, fs, rfl, s2, hFd, far⟩ ⟨rfl, rfl⟩
      have lf := lnames fs far.fl
      refine ⟨_, rfl, Fd, _, rfl, .inl (SqL.of hFd), fun M hM => ?_⟩
      have s3 : Same H2 (upd H2 M (.lst (fs.map V.str))) := same_new hM
      refine ⟨_, rfl, Fd, rfl, ⟨_, SqL.of (s3 _ _ hFd)⟩, ?_⟩
      refine for_it (walk_list (xs := fs.map V.str)) (fun i σ H' => ∃ (v5 : Option V) (M : Addr) (ms : List Str), σ = [some (.ref l), some (.str x.n), some (.ref Fd), some (.int (0 + (j : Int))), some (.ref M), v5, none] ∧ Same H2 H' ∧ H' M = some (.lst (ms.map V.str)) ∧ ms.length ≤ 12 + 12 * i ∧ ∀ m, m ∈ ms ↔ (m ∈ fs ∨ ∃ o ∈ fs.take i, m ∈ leadOf ks o))
        ⟨v5, M, fs, rfl, s3, upd_same, by omega, fun m => by simp⟩ (fun i σ H' _ ⟨_, _, _, _, e, _⟩ => SqL.of (e _ _ hFd)) ?_ ?_
      · rintro i u σ _ H3 hi ⟨v5, M, ms, rfl, s4, hM, lm, mem⟩ ⟨rfl, hu0⟩
        rw [List.getElem?_map] at hu0
        obtain ⟨o, ho, rfl⟩ := Option.map_eq_some_iff.mp hu0
        obtain ⟨p, efs⟩ := far.fl
        have mo : o ∈ ks.map (·.n) := by
          have := List.mem_of_getElem? ho
          rw [efs] at this
          exact (List.mem_filter.mp this).1
        obtain ⟨z, mz, rfl⟩ := List.mem_map.mp mo
        refine ⟨_, rfl, _, rfl, _, rfl, l, ks, z, rfl, R.same (s1.trans (s2.trans s4)), ok, mz, fun D2 H4 hD2 s5 => ?_⟩
        have lz : (leadOf ks z.n).length ≤ 12 := lnames _ (by
          unfold leadOf
          rw [atName_of ok.nd mz]
          exact ⟨_, rfl⟩)
        rw [List.length_map] at hi
        refine ⟨M, D2, _, _, rfl, rfl, s5 _ _ hM, hD2, by rw [List.length_map, List.length_map, sizeLine_eq]; omega, fun q hq => ?_⟩
        have s6 := same_new (o := .lst (ms.map V.str ++ (leadOf ks z.n).map V.str)) hq
        refine ⟨_, q, ms ++ leadOf ks z.n, rfl, s4.trans (s5.trans s6), by rw [upd_same, List.map_append], by rw [List.length_append]; omega, fun m => ?_⟩
        rw [List.mem_append, mem, take_snoc ho]
        constructor
        · rintro ((h | ⟨o, ho2, h⟩) | h)
          · exact .inl h
          · exact .inr ⟨o, List.mem_append_left _ ho2, h⟩
          · exact .inr ⟨z.n, List.mem_append_right _ (List.mem_singleton.mpr rfl), h⟩
        · rintro (h | ⟨o, ho2, h⟩)
          · exact .inl (.inl h)
          · rcases List.mem_append.mp ho2 with ho2 | ho2
            · exact .inl (.inr ⟨o, ho2, h⟩)
            · rw [List.mem_singleton.mp ho2] at h
              exact .inr h
      · rintro σ H3 ⟨v5, M, ms, rfl, s4, hM, lm, mem⟩
        rw [List.length_map, List.take_length] at mem
        have s04 := s1.trans (s2.trans s4)
        obtain ⟨rs, hl, ev3⟩ := R.same s04
        rw [List.length_map] at lm
        refine ⟨_, rfl, l, rfl, ⟨rs, hl⟩, fun D2 hD2 => ?_⟩
        refine lc_sieve (R := cR (rRow K) H3) (R2 := rW) mR mW (fun y => decide (y.n ∈ ms)) (fun y => y.n) (cs := ks) walk_list (by omega) (fun H' s => s.seq hl) hD2 (evB ev3 _) ?_ ?_ ?_
        · rintro v c H4 Rq _ s5 r kk
          obtain ⟨d, lo, ws, rfl, hd, _⟩ := rRow_same s5 (show rRow K H3 v c from r)
          refine ⟨_, rfl, d, _, rfl, g_name hd, _, rfl, M, _, rfl, .inl (SqL.of (s5 _ _ hM)), rfl, flat_strs _, _, rfl, ?_⟩
          show Rq (inV (.str c.n) (ms.map V.str)) _
          rw [mem_in]
          exact kk _ (Same.refl _)
        · rintro v c H4 Rq _ _ s5 r kk
          obtain ⟨d, lo, ws, rfl, hd, _⟩ := rRow_same s5 (show rRow K H3 v c from r)
          exact ⟨_, rfl, d, _, rfl, g_name hd, kk _ _ (Same.refl _) rfl⟩
        intro H4 zs s5 hz ez
        have := ev_words_eq ez
        subst this
        refine ⟨_, _, _, D2, (ks.map (·.n)).filter (fun m => decide (m ∈ ms)), rfl, s2.trans (s4.trans s5), ?_, far.step mem⟩
        rw [hz, List.filter_map]
        rfl
    · rintro σ H2 ⟨v3, v4, v5, Fd, fs, rfl, s2, hFd, far⟩
      rw [lus] at far
      have := far.done
      subst this
      exact ⟨_, rfl, k Fd H2 hFd (s1.trans s2)⟩
end
end Wh
set_option Elab.async false
set_option linter.all false
set_option maxRecDepth 100000
set_option maxHeartbeats 4000000
namespace Wh
open PySem PySem.Spec PyProof.Rows L2
open Wp hiding Same.refl Same.trans same_new boot_all
open W8 (Ev Rp Kp Mono same_new take_snoc rW rB mW mB ev_words ev_words_eq ev_bools_eq lc_sieve)
/-! ## fields are drawn -/
theorem cut_hi {xs : List V} {k : Nat} (h : k ≤ xs.length) : cutV xs (some (k : Int)) none = xs.drop k := by
  unfold cutV
  rw [HT.sIx_nat, HT.sIx_none, Nat.min_eq_left h]
  exact List.take_of_length_le (by rw [List.length_drop]; omega)
theorem cut_lo {xs : List V} {k : Nat} (h : k ≤ xs.length) : cutV xs none (some (k : Int)) = xs.take k := by
  unfold cutV
  rw [HT.sIx_nat, HT.sIx_none, Nat.min_eq_left h]
  rfl
theorem cut_any {xs : List V} {k : Nat} : cutV xs none (some (k : Int)) = xs.take k := by
  unfold cutV
  rw [HT.sIx_nat, HT.sIx_none, Nat.sub_zero]
  show xs.take _ = _
  rcases Nat.le_total k xs.length with h | h
  · rw [Nat.min_eq_left h]
  · rw [Nat.min_eq_right h, List.take_of_length_le h, List.take_length]
theorem rot_perm {α : Type} (ws : List α) (k : Nat) : (ws.drop k ++ ws.take k).Perm ws := (List.perm_append_comm).trans (by rw [List.take_append_drop])
/-- a pool of words -/
structure Pool (K : PySem.W.Frag) (H : Hp) (q : Addr) (ws : List Str) : Prop where
  at_ : SqL K H q (ws.map V.str)
  w : ∀ x ∈ ws, IsW x
  nd : ws.Nodup
  l2 : 2 ≤ ws.length
  l5 : ws.length ≤ 50
section
variable {P : Program} {w : World} {K : PySem.W.Frag} {mg : Str → Option Value} {base : Heap}
theorem Pool.go {p c : Addr} {ns : List Int} {H H' : Hp} {q : Addr} {ws : List Str} (h : Pool K H q ws) (pn : Pn p c ns H) (g : Go p c ns H H') : Pool K H' q ws := ⟨g.sqL pn h.at_, h.w, h.nd, h.l2, h.l5⟩
theorem Pool.same {H H' : Hp} {q : Addr} {ws : List Str} (h : Pool K H q ws) (s : Same H H') : Pool K H' q ws := ⟨s.seq h.at_, h.w, h.nd, h.l2, h.l5⟩
abbrev sWs : Stmt := top 46
abbrev nWs : List Str := ["_law_pen_here", "_law_name", "_law_pool", "_law_elder", "_law_shift", "_law_word_here"]
def spWs (K : PySem.W.Frag) : Sp := fun vs H Q _ => ∃ (p c q : Addr) (ns : List Int) (name : Str) (ws : List Str), vs = [.ref p, .str name, .ref q] ∧ Pn p c ns H ∧ Pool K H q ws ∧
  ∀ (t : Addr) (us : List Str) H', Go p c ns H H' → SqT K H' t (us.map V.str) → us.length ≤ 2 → us.Nodup → (∀ u ∈ us, u ∈ ws ∧ u ≠ name) → Q (.ref t) H'
theorem scWs : FnScope nWs ["_law_pen_here", "_law_name", "_law_pool"] (defScope sWs) := ⟨rfl, rfl, rfl, by decide +kernel, rfl, by decide +kernel, by decide +kernel⟩
theorem ok_Ws {f f1 f2 : Addr} {fd fd1 fd2 : FuncData} (F : Fun K "_law_was" "_law_was" sWs f fd) (B : Bn mg) (TK : Known P w K mg base CX0 1 "_law_take" ["_law_pen_here", "_law_bound"] spTake f1 fd1) (OO : Known P w K mg base CX0 2 "_law_one_of" ["_law_pen_here", "_law_menu"] (spOne K) f2 fd2) : FnOk P w K mg base CX0 3 f fd ["_law_pen_here", "_law_name", "_law_pool"] (spWs K) := by
  refine F.ok scWs (fun vs H Q E h => ?_) (fun cdv A outer s H vs Q E hr h => ?_)
  · obtain ⟨p, c, q, ns, name, ws, rfl, _⟩ := h
    rfl
  · obtain ⟨p, c, q, ns, name, ws, rfl, pn, po, k⟩ := h
    refine ⟨_, 
      (pss_cons (ps_setLc (i := 3) (own := [("_law_word_here", 5)]) (g := gName 5) (te := (tVar 5)) (tt := (tTest (tOp rNe (tVar 5) (tVar 1)))) rfl scWs.nd rfl rfl (sw_true rfl rfl rfl (by decide +kernel)) (pi_list (pv 2)) (blkOk_by (N := nWs) (sc := defScope sWs) (by decide +kernel)) (fun _ _ _ _ _ => pg_name (i := 5) scWs.nd rfl (Or.inl rfl)) (fun _ _ _ _ _ => pts_one (pt_cmpR op_ne (pv 5) (pv 1) (nomark _))) (fun _ _ _ _ _ => (pv 5)))
      (pss_cons (ps_set (i := 4) scWs.nd rfl (.inl rfl) (pe_call TK.ok (hr.mono (by decide)) rfl TK.mg TK.kp TK.bi .nil pass0 (pa_cons (pv 0) (pa_cons (pe_callB call_len_seq (by rfl) B.len PySem.boot_len (pa_cons (pv 3) pa_nil)) pa_nil))))
      (pss_one (ps_ret (pe_callTy call_tuple_of (by rfl) B.tuple boot_ttuple (pa_cons (pe_slice sl_list (pe_op op_cat (pe_slice sl_list (pv 3) (po_some (pv 4)) po_none) (pe_slice sl_list (pv 3) po_none (po_some (pv 4)))) po_none (po_some (pe_call OO.ok (hr.mono (by decide)) rfl OO.mg OO.kp OO.bi .nil pass0 (pa_cons (pv 0) (pa_cons (pe_lst (pa_cons pe_int (pa_cons pe_int (pa_cons pe_int (pa_cons pe_int pa_nil))))) pa_nil))))) pa_nil)))))), ?_⟩
    refine ⟨_, rfl, q, rfl, ⟨_, po.at_⟩, fun D hD => ?_⟩
    refine lc_sieve mW mW (fun x => !decide (x = name)) id (cs := ws) walk_list (by have := po.l5; omega) (fun H' s => s.seq po.at_) hD (ev_words ws) ?_ ?_ ?_
    · rintro _ x H1 Rq _ s1 rfl kk
      refine ⟨_, rfl, _, rfl, rfl, _, rfl, ?_⟩
      rw [dec_s]
      exact kk _ (Same.refl _)
    · rintro _ x H1 Rq _ _ s1 rfl kk
      exact ⟨_, rfl, kk _ _ (Same.refl _) rfl⟩
    intro H1 zs s1 hz ez
    rw [List.map_id] at ez
    have := ev_words_eq ez
    subst this
    have p1 := pn.same s1
    obtain ⟨el, eel⟩ : ∃ el, ws.filter (fun x => !decide (x = name)) = el := ⟨_, rfl⟩
    rw [eel] at hz
    have lel : 1 ≤ el.length ∧ el.length ≤ 50 := by
      subst eel
      refine ⟨?_, Nat.le_trans (List.length_filter_le _ _) po.l5⟩
      have l2 := po.l2
      obtain ⟨a, b, r, rfl⟩ : ∃ a b r, ws = a :: b :: r := by
        clear k
        cases ws with
        | nil => exact absurd l2 (by decide)
        | cons a ws => cases ws with
          | nil => simp at l2
          | cons b r => exact ⟨a, b, r, rfl⟩
      have nd := po.nd
      by_cases ea : a = name
      · have eb : ¬ b = name := fun e => by
          rw [List.nodup_cons] at nd
          exact nd.1 (by rw [ea, ← e]; exact List.mem_cons_self ..)
        exact List.length_pos_of_mem (a := b) (List.mem_filter.mpr ⟨by simp, by simp [eb]⟩)
      · exact List.length_pos_of_mem (a := a) (List.mem_filter.mpr ⟨by simp, by simp [ea]⟩)
    have sub : ∀ u ∈ el, u ∈ ws ∧ u ≠ name := fun u hu => by
      rw [← eel] at hu
      obtain ⟨m, e⟩ := List.mem_filter.mp hu
      exact ⟨m, fun z => by simp [z] at e⟩
    have nd : el.Nodup := by
      rw [← eel]
      exact po.nd.filter _
    refine ⟨_, rfl, _, rfl, D, _, rfl, .inl (SqL.of hz), ?_⟩
    rw [List.length_map]
    dsimp only [tCons, tC, tNil, List.append_nil]
    refine take_go p1 (by omega) (by omega) fun v H2 v0 v1 g2 => ?_
    obtain ⟨j, rfl⟩ := Int.eq_ofNat_of_zero_le v0
    have g12 : Go p c ns H H2 := (Go.of pn s1).trans g2
    have nD : D ≠ p := Go.ne p1 hz (by intro x z; cases z)
    have hz2 := g2.but _ _ nD hz
    refine ⟨_, rfl, _, rfl, _, rfl, D, _, rfl, SqL.of hz2, fun a ha => ?_⟩
    rw [cut_hi (by rw [List.length_map]; omega)]
    have sa := same_new (o := .lst ((el.map V.str).drop j)) ha
    refine ⟨_, rfl, _, rfl, _, rfl, D, _, rfl, SqL.of (sa _ _ hz2), fun b hb => ?_⟩
    rw [cut_lo (by rw [List.length_map]; omega)]
    have sb := same_new (o := .lst ((el.map V.str).take j)) hb
    refine ⟨a, b, _, _, rfl, rfl, sb _ _ upd_same, upd_same, by rw [List.length_drop, List.length_take, List.length_map, sizeLine_eq]; omega, fun e he => ?_⟩
    have se := same_new (o := .lst ((el.map V.str).drop j ++ (el.map V.str).take j)) he
    refine ⟨_, rfl, by show 4 ≤ sizeLine; decide, fun m hm => ?_⟩
    dsimp only [tCons, tC, tNil, List.append_nil]
    have sm := same_new (o := .lst [.int 0, .int 0, .int 1, .int 2]) hm
    have g3 := g12.trans (Go.of g12.pn (sa.trans (sb.trans (se.trans sm))))
    refine one_go g3.pn (SqL.of upd_same) (by decide) (by decide) fun x H3 mx g4 => ?_
    obtain ⟨i, rfl, i2⟩ : ∃ i : Nat, x = .int i ∧ i ≤ 2 := by
      simp only [List.mem_cons, List.not_mem_nil, or_false] at mx
      rcases mx with rfl | rfl | rfl | rfl
      · exact ⟨0, rfl, by decide⟩
      · exact ⟨0, rfl, by decide⟩
      · exact ⟨1, rfl, by decide⟩
      · exact ⟨2, rfl, by decide⟩
    have ne : e ≠ p := Go.ne g3.pn (sm _ _ upd_same) (by intro x z; cases z)
    refine ⟨_, rfl, e, _, rfl, SqL.of (g4.but _ _ ne (sm _ _ upd_same)), fun r hr => ?_⟩
    rw [cut_any]
    have sr := same_new (o := .lst (((el.map V.str).drop j ++ (el.map V.str).take j).take i)) hr
    refine ⟨r, _, rfl, .inl ⟨SqL.of upd_same, fun t ht => ?_⟩⟩
    have st := same_new (o := .tup (((el.map V.str).drop j ++ (el.map V.str).take j).take i)) ht
    have e1 : ((el.map V.str).drop j ++ (el.map V.str).take j).take i = ((el.drop j ++ el.take j).take i).map V.str := by
      rw [List.map_take, List.map_append, List.map_drop, List.map_take]
    have g5 := g3.trans g4
    refine k t ((el.drop j ++ el.take j).take i) _ (g5.trans (Go.of g5.pn (sr.trans st))) ?_ ?_ ?_ fun u hu => sub u ((rot_perm el j).mem_iff.mp (List.mem_of_mem_take hu))
    · rw [← e1]
      exact SqT.of upd_same
    · rw [List.length_take]
      omega
    · exact (((rot_perm el j).nodup_iff).mpr nd).sublist (List.take_sublist _ _)
end
end Wh
set_option Elab.async false
set_option linter.all false
set_option maxRecDepth 100000
set_option maxHeartbeats 4000000
namespace Wh
open PySem PySem.Spec PyProof.Rows L2
open Wp hiding Same.refl Same.trans same_new boot_all
open W8 (Ev Rp Kp Mono same_new take_snoc rW rB mW mB ev_words ev_words_eq ev_bools_eq lc_sieve)
section
variable {X : Cx}
/-- list + list, of which a walk may hold either -/
def rCatF : R2 := fun x y H Q => ∃ l b xs zs, x = .ref l ∧ y = .ref b ∧ Rd H l (.lst xs) ∧ Rd H b (.lst zs) ∧ xs.length + zs.length ≤ sizeLine ∧ ∀ p, H p = none → Q (.ref p) (upd H p (.lst (xs ++ zs)))
theorem op_catF : OpR X (binaryOp .Add) rCatF := by
  intro pins s σ H x y v u Q I rx ry h
  obtain ⟨l, b, xs, zs, rfl, rfl, hH, hB, hz, q⟩ := h
  cases rx
  cases ry
  obtain ⟨z, its, n, r, e⟩ := (show ObjOk X.prog X.w H s.heap l (.lst xs) from hH.ok I.hok)
  obtain ⟨z2, its2, n2, r2, e2⟩ := (show ObjOk X.prog X.w H s.heap b (.lst zs) from hB.ok I.hok)
  have hl := r.length
  have hl2 := r2.length
  refine PySem.P.add_list e e2 ?_ (by rw [List.size_toArray, List.size_toArray]; omega)
  have ea : its.toArray ++ its2.toArray = (its ++ its2).toArray := by simp
  rw [ea]
  exact ⟨.ref _, _, I.lnew (t' := s.toks) (r.append r2) (by rw [List.length_append]; omega), rfl, q _ I.fresh⟩
end
section
variable {K : PySem.W.Frag} {p c : Addr} {ns : List Int} {H H' : Hp}
theorem rd_go {a : Addr} {xs : List V} (pn : Pn p c ns H) (g : Go p c ns H H') (h : Rd H a (.lst xs)) : Rd H' a (.lst xs) := by
  rcases h with h | ⟨o, h⟩
  · exact .inl (g.but _ _ (Go.ne pn h (by intro x z; cases z)) h)
  · exact .inr ⟨o, g.but _ _ (Go.ne pn h (by intro x z; cases z)) h⟩
theorem rd_same {a : Addr} {o : HO} (s : Same H H') (h : Rd H a o) : Rd H' a o := h.imp (s _ _) fun ⟨q, h⟩ => ⟨q, s _ _ h⟩
theorem go_stay (pn : Pn p c ns H) (g : Go p c ns H H') : Stay H H' :=
  ⟨fun b xs e => g.but _ _ (Go.ne pn e (by intro x z; cases z)) e, fun b o xs e => g.but _ _ (Go.ne pn e (by intro x z; cases z)) e, fun b C d fs e => g.but _ _ (Go.ne pn e (by intro x z; cases z)) e⟩
end
/-! ## a field is drawn -/
structure FldOk (g : FV) : Prop where
  n : IsW g.n
  w : ∀ u ∈ g.w, IsW u
  wn : g.n ∉ g.w
  wd : g.w.Nodup
  w2 : g.w.length ≤ 2
  m : (g.m = "mark" ∧ g.t = none ∧ -1000000000000 < g.d ∧ g.d < 1000000000000) ∨ ((g.m = "link" ∨ g.m = "list") ∧ g.d = 0 ∧ ∃ t, g.t = some t ∧ (t = "any" ∨ IsK t))
section
variable {P : Program} {w : World} {K : PySem.W.Frag} {mg : Str → Option Value} {base : Heap}
abbrev sFl : Stmt := top 47
abbrev nFl : List Str := ["_law_pen_here", "_law_name", "_law_names", "_law_pool", "_law_leaf", "_law_own_was", "_law_mode", "_law_shift"]
def spFl (K : PySem.W.Frag) : Sp := fun vs H Q _ => ∃ (p c q nl : Addr) (ns : List Int) (name : Str) (kn ws : List Str) (leaf : Bool), vs = [.ref p, .str name, .ref nl, .ref q, .bl leaf] ∧ Pn p c ns H ∧ Pool K H q ws ∧ Rd H nl (.lst (kn.map V.str)) ∧ kn.length ≤ 50 ∧ (∀ k ∈ kn, IsK k) ∧ IsW name ∧
  ∀ (v : V) (g : FV) H', Go p c ns H H' → rLF K H' v g → FldOk g → g.n = name → (∀ t, g.t = some t → t = "any" ∨ t ∈ kn) → (leaf = true → g.m = "mark") → Q v H'
theorem scFl : FnScope nFl ["_law_pen_here", "_law_name", "_law_names", "_law_pool", "_law_leaf"] (defScope sFl) := ⟨rfl, rfl, rfl, by decide +kernel, rfl, by decide +kernel, by decide +kernel⟩
theorem ok_Fl {f f1 f2 f3 : Addr} {fd fd1 fd2 fd3 : FuncData} (F : Fun K "_law_field" "_law_field" sFl f fd) (B : Bn mg) (TK : Known P w K mg base CX0 1 "_law_take" ["_law_pen_here", "_law_bound"] spTake f1 fd1) (OO : Known P w K mg base CX0 2 "_law_one_of" ["_law_pen_here", "_law_menu"] (spOne K) f2 fd2) (WS : Known P w K mg base CX0 3 "_law_was" ["_law_pen_here", "_law_name", "_law_pool"] (spWs K) f3 fd3) : FnOk P w K mg base CX0 4 f fd ["_law_pen_here", "_law_name", "_law_names", "_law_pool", "_law_leaf"] (spFl K) := by
  refine F.ok scFl (fun vs H Q E h => ?_) (fun cdv A outer s H vs Q E hr h => ?_)
  · obtain ⟨p, c, q, nl, ns, name, kn, ws, leaf, rfl, _⟩ := h
    rfl
  · obtain ⟨p, c, q, nl, ns, name, kn, ws, leaf, rfl, pn, po, hn, n5, kk, wn, k⟩ := h
    refine ⟨_, 
      (pss_cons (ps_set (i := 5) scFl.nd rfl (.inl rfl) (pe_call WS.ok (hr.mono (by decide)) rfl WS.mg WS.kp WS.bi .nil pass0 (pa_cons (pv 0) (pa_cons (pv 1) (pa_cons (pv 3) pa_nil)))))
      (pss_cons (ps_set (i := 6) scFl.nd rfl (.inl rfl) pe_str)
      (pss_cut (ps_if (pt_not (pt_val (pv 4))) 
        (pss_one (ps_set (i := 6) scFl.nd rfl (.inl rfl) (pe_call OO.ok (hr.mono (by decide)) rfl OO.mg OO.kp OO.bi .nil pass0 (pa_cons (pv 0) (pa_cons (pe_lst (pa_cons pe_str (pa_cons pe_str (pa_cons pe_str (pa_cons pe_str pa_nil))))) pa_nil))))) pss_nil)
      (pss_cons (ps_if (pt_cmpR op_eq (pv 6) pe_str (nomark _)) 
        (pss_cons (ps_set (i := 7) scFl.nd rfl (.inl rfl) (pe_call OO.ok (hr.mono (by decide)) rfl OO.mg OO.kp OO.bi .nil pass0 (pa_cons (pv 0) (pa_cons (pe_lst (pa_cons pe_int (pa_cons pe_int (pa_cons (pe_op op_sub (pe_op op_pow pe_int pe_int) pe_int) (pa_cons (pe_op op_sub pe_int (pe_op op_pow pe_int pe_int)) pa_nil))))) pa_nil))))
        (pss_one (ps_ret (pe_tup (pa_cons (pv 1) (pa_cons pe_str (pa_cons pe_non (pa_cons (pe_op op_add (pv 7) (pe_call TK.ok (hr.mono (by decide)) rfl TK.mg TK.kp TK.bi .nil pass0 (pa_cons (pv 0) (pa_cons pe_int pa_nil)))) (pa_cons (pv 5) pa_nil))))))))) pss_nil)
      (pss_one (ps_ret (pe_tup (pa_cons (pv 1) (pa_cons (pv 6) (pa_cons (pe_call OO.ok (hr.mono (by decide)) rfl OO.mg OO.kp OO.bi .nil pass0 (pa_cons (pv 0) (pa_cons (pe_op op_catF (pv 2) (pe_lst (pa_cons pe_str pa_nil))) pa_nil))) (pa_cons pe_int (pa_cons (pv 5) pa_nil)))))))))))), ?_⟩
    refine ⟨_, rfl, _, rfl, _, rfl, p, c, q, ns, name, ws, rfl, pn, po, fun t us H1 g1 ht u2 un us1 => ?_⟩
    refine ⟨fun σ H' => ∃ (mode : Str), σ = [some (.ref p), some (.str name), some (.ref nl), some (.ref q), some (.bl leaf), some (.ref t), some (.str mode), none] ∧ (mode = "mark" ∨ leaf = false ∧ (mode = "link" ∨ mode = "list")) ∧ Go p c ns H1 H', ?_, ?_⟩
    · refine ⟨_, rfl, leaf, rfl, ?_⟩
      cases leaf with
      | true => exact iteF ⟨_, rfl, .inl rfl, Go.refl g1.pn⟩
      | false =>
        refine iteT ⟨_, rfl, by show 4 ≤ sizeLine; decide, fun m hm => ?_⟩
        dsimp only [tCons, tC, tNil, List.append_nil]
        have sm := same_new (o := .lst [.str "link", .str "mark", .str "list", .str "link"]) hm
        refine one_go (g1.pn.same sm) (SqL.of upd_same) (by decide) (by decide) fun x H3 mx g4 => ?_
        obtain ⟨mode, rfl, hm⟩ : ∃ mode : Str, x = .str mode ∧ (mode = "mark" ∨ false = false ∧ (mode = "link" ∨ mode = "list")) := by
          simp only [List.mem_cons, List.not_mem_nil, or_false] at mx
          rcases mx with rfl | rfl | rfl | rfl
          · exact ⟨_, rfl, .inr ⟨rfl, .inl rfl⟩⟩
          · exact ⟨_, rfl, .inl rfl⟩
          · exact ⟨_, rfl, .inr ⟨rfl, .inr rfl⟩⟩
          · exact ⟨_, rfl, .inr ⟨rfl, .inl rfl⟩⟩
        exact ⟨mode, rfl, hm, (Go.of g1.pn sm).trans g4⟩
    · rintro _ H2 ⟨mode, rfl, hm, g2⟩
      have g12 := g1.trans g2
      have ht2 := g2.sqT g1.pn ht
      have fok : ∀ (tt : Option Str) (d : Int), ((mode = "mark" ∧ tt = none ∧ -1000000000000 < d ∧ d < 1000000000000) ∨ ((mode = "link" ∨ mode = "list") ∧ d = 0 ∧ ∃ t, tt = some t ∧ (t = "any" ∨ IsK t))) → FldOk ⟨name, mode, tt, d, us⟩ := fun tt d h =>
        ⟨wn, fun u hu => po.w u (us1 u hu).1, fun z => (us1 name z).2 rfl, un, u2, h⟩
      refine ⟨_, rfl, rfl, _, rfl, ?_⟩
      rw [dec_s]
      by_cases em : mode = ("mark" : Str)
      · rw [decide_eq_true em]
        refine iteT ⟨_, rfl, _, _, rfl, rfl, ⟨by decide, by decide, by decide⟩, _, _, rfl, rfl, _, _, rfl, rfl, ⟨by decide, by decide, by decide⟩, _, _, rfl, rfl, by show 4 ≤ sizeLine; decide, fun m hm => ?_⟩
        dsimp only [tCons, tC, tNil, List.append_nil]
        have sm := same_new (o := .lst [.int 0, .int 0, .int ((10 : Int) ^ (12 : Int).toNat - 3), .int (1 - (10 : Int) ^ (12 : Int).toNat)]) hm
        have e12 : (10 : Int) ^ (12 : Int).toNat = 1000000000000 := by decide
        refine one_go (g2.pn.same sm) (SqL.of upd_same) (by decide) (by decide) fun x H3 mx g3 => ?_
        obtain ⟨b, rfl, b0, b1⟩ : ∃ b : Int, x = .int b ∧ -1000000000000 < b ∧ b ≤ 1000000000000 - 3 := by
          simp only [List.mem_cons, List.not_mem_nil, or_false] at mx
          rcases mx with rfl | rfl | rfl | rfl
          · exact ⟨0, rfl, by decide, by decide⟩
          · exact ⟨0, rfl, by decide, by decide⟩
          · exact ⟨_, rfl, by rw [e12]; decide, by rw [e12]; decide⟩
          · exact ⟨_, rfl, by rw [e12]; decide, by rw [e12]; decide⟩
        have g23 := (Go.of g2.pn sm).trans g3
        refine ⟨_, rfl, _, rfl, _, rfl, ?_⟩
        dsimp only [tCons, tC, tNil, List.append_nil]
        refine take_go (b := 3) g23.pn (by decide) (by decide) fun v H4 v0 v1 g4 => ?_
        refine ⟨_, _, rfl, rfl, _, rfl, by show 5 ≤ sizeLine; decide, fun r hr => ?_⟩
        have g24 := g23.trans g4
        have sr := same_new (o := .tup [.str name, .str "mark", .non, .int (b + v), .ref t]) hr
        subst em
        exact k (.ref r) ⟨name, "mark", none, b + v, us⟩ _ (g12.trans (g24.trans (Go.of g24.pn sr))) ⟨r, t, rfl, SqT.of upd_same, sr.sqT (g24.sqT g2.pn ht2)⟩ (fok _ _ (.inl ⟨rfl, rfl, by omega, by omega⟩)) rfl (fun z e => by cases e) (fun _ => rfl)
      · rw [decide_eq_false em]
        obtain ⟨lf, hmo⟩ := hm.resolve_left em
        refine iteF ⟨_, rfl, _, rfl, _, rfl, ?_⟩
        have hn2 := rd_go pn g12 hn
        refine ⟨_, rfl, by show 1 ≤ sizeLine; decide, fun m hm => ?_⟩
        have sm := same_new (o := .lst [.str "any"]) hm
        refine ⟨nl, m, _, _, rfl, rfl, rd_same sm hn2, .inl upd_same, by rw [List.length_map, sizeLine_eq]; show kn.length + 1 ≤ _; omega, fun r hr => ?_⟩
        have sr := same_new (o := .lst (kn.map V.str ++ [.str "any"])) hr
        dsimp only [tCons, tC, tNil, List.append_nil]
        have g3 := Go.of g2.pn (sm.trans sr)
        refine one_go g3.pn (SqL.of upd_same) (by simp) (by simp; omega) fun x H3 mx g4 => ?_
        obtain ⟨tg, rfl, ht⟩ : ∃ tg : Str, x = .str tg ∧ (tg = "any" ∨ tg ∈ kn) := by
          rcases List.mem_append.mp mx with mx | mx
          · obtain ⟨z, mz, rfl⟩ := List.mem_map.mp mx
            exact ⟨z, rfl, .inr mz⟩
          · exact ⟨"any", List.mem_singleton.mp mx, .inl rfl⟩
        have g34 := g3.trans g4
        refine ⟨_, rfl, by show 5 ≤ sizeLine; decide, fun r2 hr2 => ?_⟩
        have s2 := same_new (o := .tup [.str name, .str mode, .str tg, .int 0, .ref t]) hr2
        exact k (.ref r2) ⟨name, mode, some tg, 0, us⟩ _ (g12.trans (g34.trans (Go.of g34.pn s2))) ⟨r2, t, rfl, SqT.of upd_same, s2.sqT (g34.sqT g2.pn ht2)⟩ (fok _ _ (.inr ⟨hmo, rfl, tg, rfl, ht.imp id fun h => kk tg h⟩)) rfl (fun z e => by cases e; exact ht) (fun e => by rw [lf] at e; cases e)
end
end Wh
set_option Elab.async false
set_option linter.all false
set_option maxRecDepth 100000
set_option maxHeartbeats 4000000
namespace Wh
open PySem PySem.Spec PyProof.Rows L2
open Wp hiding Same.refl Same.trans same_new boot_all
open W8 (Ev Rp Kp Mono same_new take_snoc rW rB mW mB ev_words ev_words_eq ev_bools_eq lc_sieve)
/-! ## the flavour of a row -/
structure Flav (es : List KD) (fl : Str) : Prop where
  it : fl = "plain" ∨ fl = "open" ∨ fl = "frozen" ∨ fl = "keyed" ∨ fl = "registered" ∨ fl = "heir"
  leaf : fl = "keyed" ∨ fl = "registered" → es ≠ []
  heir : fl = "heir" → ∃ e ∈ es, e.h = true
section
variable {P : Program} {w : World} {K : PySem.W.Frag} {mg : Str → Option Value} {base : Heap}
abbrev sFv : Stmt := top 48
abbrev nFv : List Str := ["_law_pen_here", "_law_rows", "_law_flavours", "_law_row_here"]
def spFv (K : PySem.W.Frag) : Sp := fun vs H Q _ => ∃ (p c l : Addr) (ns : List Int) (es : List KD), vs = [.ref p, .ref l] ∧ Pn p c ns H ∧ RowsL K H l es ∧ es.length ≤ 20 ∧ ∀ fl H', Go p c ns H H' → Flav es fl → Q (.str fl) H'
theorem scFv : FnScope nFv ["_law_pen_here", "_law_rows"] (defScope sFv) := ⟨rfl, rfl, rfl, by decide +kernel, rfl, by decide +kernel, by decide +kernel⟩
theorem ok_Fv {f f2 : Addr} {fd fd2 : FuncData} (F : Fun K "_law_flavour" "_law_flavour" sFv f fd) (B : Bn mg) (OO : Known P w K mg base CX0 2 "_law_one_of" ["_law_pen_here", "_law_menu"] (spOne K) f2 fd2) : FnOk P w K mg base CX0 3 f fd ["_law_pen_here", "_law_rows"] (spFv K) := by
  refine F.ok scFv (fun vs H Q E h => ?_) (fun cdv A outer s H vs Q E hr h => ?_)
  · obtain ⟨p, c, l, ns, es, rfl, _⟩ := h
    rfl
  · obtain ⟨p, c, l, ns, es, rfl, pn, ⟨us, hl, ev⟩, n20, k⟩ := h
    have hu := hu_of hr
    refine ⟨_, 
      (pss_cons (ps_set (i := 2) scFv.nd rfl (.inl rfl) (pe_lst (pa_cons pe_str (pa_cons pe_str (pa_cons pe_str (pa_cons pe_str pa_nil))))))
      (pss_cut (ps_if (pt_cmpR op_gt (pe_callB call_len_seq (by rfl) B.len PySem.boot_len (pa_cons (pv 1) pa_nil)) pe_int (nomark _)) 
        (pss_one (ps_set (i := 2) scFv.nd rfl (.inl rfl) (pe_op op_catF (pv 2) (pe_lst (pa_cons pe_str (pa_cons pe_str pa_nil)))))) pss_nil)
      (pss_cut (ps_if (pt_cmpR op_gt (pe_callB call_len_seq (by rfl) B.len PySem.boot_len (pa_cons (pe_lc (own := [("_law_row_here", 3)]) (g := gName 3) (te := (tVar 3)) (tt := (tB (tDGet (tVar 3) (tC (.str "heirs"))))) rfl scFv.nd (pi_list (pv 1)) (blkOk_by (N := nFv) (sc := defScope sFv) (by decide +kernel)) (fun _ _ _ _ _ => pg_name (i := 3) scFv.nd rfl (Or.inl rfl)) (fun _ _ _ _ _ => pts_one (pt_val (pe_dget hu (pv 3) pe_str (fun _ _ => rfl)))) (fun _ _ _ _ _ => (pv 3))) pa_nil)) pe_int (nomark _)) 
        (pss_one (ps_set (i := 2) scFv.nd rfl (.inl rfl) (pe_op op_catF (pv 2) (pe_lst (pa_cons pe_str (pa_cons pe_str (pa_cons pe_str pa_nil))))))) pss_nil)
      (pss_one (ps_ret (pe_call OO.ok (hr.mono (by decide)) rfl OO.mg OO.kp OO.bi .nil pass0 (pa_cons (pv 0) (pa_cons (pv 2) pa_nil)))))))), ?_⟩
    refine ⟨by show 4 ≤ sizeLine; decide, fun m hm => ?_⟩
    have sm := same_new (o := .lst [.str "plain", .str "open", .str "frozen", .str "plain"]) hm
    have e0 : ∀ {fl : Str}, fl = "plain" ∨ fl = "open" ∨ fl = "frozen" → Flav es fl := fun {fl} h => ⟨h.imp id fun h => h.imp id .inl, fun z => by rcases h with rfl | rfl | rfl <;> rcases z with z | z <;> exact absurd z (by decide +kernel), fun z => by rcases h with rfl | rfl | rfl <;> exact absurd z (by decide +kernel)⟩
    refine ⟨fun σ H' => ∃ (m : Addr) (fs : List Str), σ = [some (.ref p), some (.ref l), some (.ref m), none] ∧ Same H H' ∧ H' m = some (.lst (fs.map V.str)) ∧ 0 < fs.length ∧ fs.length ≤ 6 ∧ ∀ x ∈ fs, Flav es x, ?_, ?_⟩
    · refine ⟨_, rfl, l, us, rfl, .inl (sm.seq hl), _, _, rfl, rfl, _, rfl, ?_⟩
      have base4 : ∀ x ∈ (["plain", "open", "frozen", "plain"] : List Str), Flav es x := fun x mx => by
        simp only [List.mem_cons, List.not_mem_nil, or_false] at mx
        rcases mx with rfl | rfl | rfl | rfl
        · exact e0 (.inl rfl)
        · exact e0 (.inr (.inl rfl))
        · exact e0 (.inr (.inr rfl))
        · exact e0 (.inl rfl)
      refine ite2 (fun h1 => ?_) (fun _ => ?_)
      · have h1 := of_decide_eq_true h1
        have nn : es ≠ [] := fun e => by
          rw [ev.1, e] at h1
          simp at h1
        refine ⟨_, rfl, by show 2 ≤ sizeLine; decide, fun m2 hm2 => ?_⟩
        have s2 := same_new (o := .lst [.str "keyed", .str "registered"]) hm2
        refine ⟨m, m2, _, _, rfl, rfl, .inl (s2 _ _ upd_same), .inl upd_same, by show 6 ≤ sizeLine; decide, fun m3 hm3 => ?_⟩
        have s3 := same_new (o := .lst [.str "plain", .str "open", .str "frozen", .str "plain", .str "keyed", .str "registered"]) hm3
        refine ⟨m3, ["plain", "open", "frozen", "plain", "keyed", "registered"], rfl, sm.trans (s2.trans s3), upd_same, by decide, by decide, fun x mx => ?_⟩
        rcases List.mem_append.mp (show x ∈ (["plain", "open", "frozen", "plain"] : List Str) ++ (["keyed", "registered"] : List Str) from mx) with mx | mx
        · exact base4 x mx
        · simp only [List.mem_cons, List.not_mem_nil, or_false] at mx
          rcases mx with rfl | rfl
          · exact ⟨.inr (.inr (.inr (.inl rfl))), fun _ => nn, fun z => absurd z (by decide +kernel)⟩
          · exact ⟨.inr (.inr (.inr (.inr (.inl rfl)))), fun _ => nn, fun z => absurd z (by decide +kernel)⟩
      · exact ⟨m, ["plain", "open", "frozen", "plain"], rfl, sm, upd_same, by decide, by decide, base4⟩
    rintro _ H1 ⟨m, fs, rfl, s1, hm1, f0, f6, fl⟩
    refine ⟨fun σ H' => ∃ (m : Addr) (fs : List Str), σ = [some (.ref p), some (.ref l), some (.ref m), none] ∧ Same H H' ∧ H' m = some (.lst (fs.map V.str)) ∧ 0 < fs.length ∧ fs.length ≤ 9 ∧ ∀ x ∈ fs, Flav es x, ?_, ?_⟩
    · refine ⟨_, rfl, l, rfl, ⟨us, s1.seq hl⟩, fun D hD => ?_⟩
      refine lc_sieve (R := cR (rRow K) H) (R2 := cR (rRow K) H) mR mR (fun e => e.h) id (cs := es) walk_list (by omega) (fun H' s => (s1.trans s).seq hl) hD (evB ev _) ?_ ?_ ?_
      · rintro v e H2 Rq _ s2 r kk
        obtain ⟨d, lo, ws, rfl, hd, _⟩ := rRow_same (s1.trans s2) (show rRow K H v e from r)
        exact ⟨_, rfl, d, _, rfl, g_heirs hd, _, rfl, kk _ (Same.refl _)⟩
      · rintro v e H2 Rq _ _ s2 r kk
        exact ⟨_, rfl, kk _ _ (Same.refl _) r⟩
      intro H2 zs s2 hz ez
      rw [List.map_id] at ez
      refine ⟨D, _, rfl, .inl (SqL.of hz), _, _, rfl, rfl, _, rfl, ?_⟩
      refine ite2 (fun h1 => ?_) (fun _ => ?_)
      · have h1 := of_decide_eq_true h1
        have hh : ∃ e ∈ es, e.h = true := by
          rw [ez.1] at h1
          cases ef : es.filter (fun e => e.h) with
          | nil => rw [ef] at h1; simp at h1
          | cons e r =>
            have me : e ∈ es.filter (fun e => e.h) := by rw [ef]; exact List.mem_cons_self ..
            exact ⟨e, List.mem_filter.mp me⟩
        refine ⟨_, rfl, by show 3 ≤ sizeLine; decide, fun m2 hm2 => ?_⟩
        have s3 := same_new (o := .lst [.str "heir", .str "heir", .str "heir"]) hm2
        refine ⟨m, m2, _, _, rfl, rfl, .inl (s3 _ _ (s2 _ _ hm1)), .inl upd_same, by rw [List.length_map, sizeLine_eq]; show fs.length + 3 ≤ _; omega, fun m3 hm3 => ?_⟩
        have s4 := same_new (o := .lst (fs.map V.str ++ [.str "heir", .str "heir", .str "heir"])) hm3
        refine ⟨m3, fs ++ (["heir", "heir", "heir"] : List Str), rfl, s1.trans (s2.trans (s3.trans s4)), by rw [upd_same, List.map_append]; rfl, by simp, by simp; omega, fun x mx => ?_⟩
        rcases List.mem_append.mp mx with mx | mx
        · exact fl x mx
        · have : x = "heir" := by simpa using mx
          subst this
          exact ⟨.inr (.inr (.inr (.inr (.inr rfl)))), fun z => by rcases z with z | z <;> exact absurd z (by decide +kernel), fun _ => hh⟩
      · exact ⟨m, fs, rfl, s1.trans s2, s2 _ _ hm1, f0, by omega, fl⟩
    rintro _ H3 ⟨m, fs, rfl, s3, hm3, f0, f9, fl⟩
    refine ⟨_, rfl, _, rfl, ?_⟩
    dsimp only [tCons, tC, tNil, List.append_nil]
    refine one_go (pn.same s3) (SqL.of hm3) (by rw [List.length_map]; exact f0) (by rw [List.length_map]; omega) fun x H4 mx g4 => ?_
    obtain ⟨z, mz, rfl⟩ := List.mem_map.mp mx
    exact k z H4 ((Go.of pn s3).trans g4) (fl z mz)
end
end Wh
set_option Elab.async false
set_option linter.all false
set_option maxRecDepth 100000
set_option maxHeartbeats 4000000
namespace Wh
open PySem PySem.Spec PyProof.Rows L2
open Wp hiding Same.refl Same.trans same_new boot_all
open W8 (Ev Rp Kp Mono same_new take_snoc rW rB mW mB ev_words ev_words_eq ev_bools_eq lc_sieve)
/-! ## a row is drawn -/
/-- rows that were drawn so far -/
structure Drw (kn : List Str) (es : List KD) : Prop where
  n : es.map (·.n) = kn.take es.length
  h : ∀ e ∈ es, e.h = true → e.b = none
  f4 : ∀ e ∈ es, e.fs.length ≤ 4
  fnd : ∀ e ∈ es, (e.fs.map (·.n)).Nodup
/-- a new row behind them -/
structure NewR (kn : List Str) (es : List KD) (x : KD) : Prop where
  n : kn[es.length]? = some x.n
  b : ∀ z, x.b = some z → ∃ y ∈ es, y.n = z ∧ y.h = true
  fh : x.b ≠ none → x.f = false ∧ x.h = false
  hh : x.h = true → x.f = false ∧ x.k = none
  r : x.r = true → x.k ≠ none
  fs : ∀ g ∈ x.fs, FldOk g
  f4 : x.fs.length ≤ 4
  nd : ((allF es x).map (·.n)).Nodup
  t : ∀ g ∈ x.fs, ∀ t, g.t = some t → t = "any" ∨ t ∈ kn
  k : ∀ z, x.k = some z → (∀ g ∈ allF es x, g.m = "mark") ∧ z ∈ (allF es x).map (·.n)
  k0 : es = [] → x.k = none
section
variable {K : PySem.W.Frag} {p c : Addr} {ns : List Int} {H H' : Hp}
theorem go_none {a : Addr} (g : Go p c ns H H') (h : H' a = none) : H a = none := by
  cases e : H a with
  | none => rfl
  | some o =>
    by_cases ea : a = p
    · obtain ⟨_, _, _, _, _, S⟩ := g.pn
      rw [ea, S.pd] at h
      cases h
    · rw [g.but a o ea e] at h
      cases h
theorem rRow_go {v : V} {x : KD} (pn : Pn p c ns H) (g : Go p c ns H H') (h : rRow K H v x) : rRow K H' v x := by
  obtain ⟨d, lo, us, e, h1, h2, h3⟩ := h
  exact ⟨d, lo, us, e, g.but _ _ (Go.ne pn h1 (by intro x z; simp [rowD, penD] at z)) h1, g.sqL pn h2, h3.1, fun i v x a b => rLF_stay (go_stay pn g) (h3.2 i v x a b)⟩
theorem RowsL.go {l : Addr} {ks : List KD} (h : RowsL K H l ks) (pn : Pn p c ns H) (g : Go p c ns H H') : RowsL K H' l ks := by
  obtain ⟨us, e, n, r⟩ := h
  exact ⟨us, g.sqL pn e, n, fun i v x a b => rRow_go pn g (r i v x a b)⟩
theorem ev_go {us : List V} {gs : List FV} (h : Ev (rLF K) H us gs) (pn : Pn p c ns H) (g : Go p c ns H H') : Ev (rLF K) H' us gs := ⟨h.1, fun i v x a b => rLF_stay (go_stay pn g) (h.2 i v x a b)⟩
end
theorem row_made {lo : Addr} {x : KD} : mergeK [] ([(Sum.inr "name", .str x.n), (Sum.inr "base", tv x.b), (Sum.inr "frozen", .bl x.f), (Sum.inr "heirs", .bl x.h), (Sum.inr "key", tv x.k), (Sum.inr "registered", .bl x.r), (Sum.inr "own", .ref lo)] : List (Key × V)) = rowD x lo := by
  simp [mergeK, putK, rowD, Rd7.m1, Rd7.m2, Rd7.m3, Rd7.m4, Rd7.m5, Rd7.m6, Rd7.m7, Rd7.m8, Rd7.m9, Rd7.m10, Rd7.m11, Rd7.m12, Rd7.m13, Rd7.m14, Rd7.m15, Rd7.m16, Rd7.m17, Rd7.m18, Rd7.m19, Rd7.m20, Rd7.m21]
theorem less_out {ws hs : List Str} (nd : ws.Nodup) : ws.length ≤ (ws.filter fun x => !decide (x ∈ hs)).length + hs.length := by
  have h1 : (ws.filter fun x => decide (x ∈ hs)).length ≤ hs.length := nodup_le (nd.filter _) fun x hx => of_decide_eq_true (List.mem_filter.mp hx).2
  have h2 : ws.length = (ws.filter fun x => decide (x ∈ hs)).length + (ws.filter fun x => !decide (x ∈ hs)).length := by
    clear h1 nd
    induction ws with
    | nil => rfl
    | cons a ws ih =>
      rw [List.filter_cons, List.filter_cons]
      by_cases e : a ∈ hs
      · simp [e]; omega
      · simp [e]; omega
  omega
section
variable {P : Program} {w : World} {K : PySem.W.Frag} {mg : Str → Option Value} {base : Heap}
abbrev sNr : Stmt := top 49
abbrev nNr : List Str := ["_law_pen_here", "_law_rows", "_law_names", "_law_pool", "_law_flavour_here", "_law_own_base", "_law_held", "_law_leaf", "_law_least", "_law_shift", "_law_free", "_law_own", "_law_k", "_law_own_key", "_law_marks_alone", "_law_row_here", "_law_word_here", "_law_field_here"]
def spNr (K : PySem.W.Frag) : Sp := fun vs H Q _ => ∃ (p c l nl q : Addr) (ns : List Int) (kn ws : List Str) (es : List KD), vs = [.ref p, .ref l, .ref nl, .ref q] ∧ Pn p c ns H ∧ RowsL K H l es ∧ Rd H nl (.lst (kn.map V.str)) ∧ Pool K H q ws ∧ Rd H q (.lst (ws.map V.str)) ∧ 8 ≤ ws.length ∧ kn.length ≤ 12 ∧ (∀ k ∈ kn, IsK k) ∧ kn.Nodup ∧ es.length < kn.length ∧ Drw kn es ∧
  ∀ (d lo : Addr) (us : List V) (x : KD) H', Go p c ns H H' → H d = none → H' d = some (.dK (rowD x lo)) → H lo = none → H' lo = some (.lst us) → Ev (rLF K) H' us x.fs → NewR kn es x → Q (.ref d) H'
theorem scNr : FnScope nNr ["_law_pen_here", "_law_rows", "_law_names", "_law_pool"] (defScope sNr) := ⟨rfl, rfl, rfl, by decide +kernel, rfl, by decide +kernel, by decide +kernel⟩
theorem ok_Nr {f f1 f2 f3 f4 f5 : Addr} {fd fd1 fd2 fd3 fd4 fd5 : FuncData} (F : Fun K "_law_new_row" "_law_new_row" sNr f fd) (B : Bn mg) (TK : Known P w K mg base CX0 1 "_law_take" ["_law_pen_here", "_law_bound"] spTake f1 fd1) (OO : Known P w K mg base CX0 2 "_law_one_of" ["_law_pen_here", "_law_menu"] (spOne K) f2 fd2)
    (FV_ : Known P w K mg base CX0 3 "_law_flavour" ["_law_pen_here", "_law_rows"] (spFv K) f3 fd3) (AF : Known P w K mg base CX0 3 "_law_all_fields" ["_law_rows", "_law_name"] (spAf K true) f4 fd4) (FL : Known P w K mg base CX0 4 "_law_field" ["_law_pen_here", "_law_name", "_law_names", "_law_pool", "_law_leaf"] (spFl K) f5 fd5) : FnOk P w K mg base CX0 5 f fd ["_law_pen_here", "_law_rows", "_law_names", "_law_pool"] (spNr K) := by
  refine F.ok scNr (fun vs H Q E h => ?_) (fun cdv A outer s H vs Q E hr h => ?_)
  · obtain ⟨p, c, l, nl, q, ns, kn, ws, es, rfl, _⟩ := h
    rfl
  · obtain ⟨p, c, l, nl, q, ns, kn, ws, es, rfl, pn, R, hn, po, hq, w8, k12, kk, knd, lt, dr, k⟩ := h
    have hu := hu_of hr
    refine ⟨_, 
      (pss_cons (ps_set (i := 4) scNr.nd rfl (.inl rfl) (pe_call FV_.ok (hr.mono (by decide)) rfl FV_.mg FV_.kp FV_.bi .nil pass0 (pa_cons (pv 0) (pa_cons (pv 1) pa_nil))))
      (pss_cons (ps_set (i := 5) scNr.nd rfl (.inl rfl) pe_non)
      (pss_cons (ps_set (i := 6) scNr.nd rfl (.inr rfl) (pe_lst pa_nil))
      (pss_cut (ps_if (pt_cmpR op_eq (pv 4) pe_str (nomark _)) 
        (pss_cons (ps_set (i := 5) scNr.nd rfl (.inl rfl) (pe_call OO.ok (hr.mono (by decide)) rfl OO.mg OO.kp OO.bi .nil pass0 (pa_cons (pv 0) (pa_cons (pe_lc (own := [("_law_row_here", 15)]) (g := gName 15) (te := (tDGet (tVar 15) (tC (.str "name")))) (tt := (tB (tDGet (tVar 15) (tC (.str "heirs"))))) rfl scNr.nd (pi_list (pv 1)) (blkOk_by (N := nNr) (sc := defScope sNr) (by decide +kernel)) (fun _ _ _ _ _ => pg_name (i := 15) scNr.nd rfl (Or.inl rfl)) (fun _ _ _ _ _ => pts_one (pt_val (pe_dget hu (pv 15) pe_str (fun _ _ => rfl)))) (fun _ _ _ _ _ => (pe_dget hu (pv 15) pe_str (fun _ _ => rfl)))) pa_nil))))
        (pss_one (ps_set (i := 6) scNr.nd rfl (.inr rfl) (pe_call AF.ok (hr.mono (by decide)) rfl AF.mg AF.kp AF.bi .nil pass0 (pa_cons (pv 1) (pa_cons (pv 5) pa_nil)))))) pss_nil)
      (pss_cons (ps_set (i := 7) scNr.nd rfl (.inl rfl) (pe_cmpR op_in_seq (pv 4) (pe_lst (pa_cons pe_str (pa_cons pe_str pa_nil))) (by rfl)))
      (pss_cons (ps_set (i := 8) scNr.nd rfl (.inl rfl) pe_int)
      (pss_cut (ps_if (pt_val (pv 7)) 
        (pss_one (ps_set (i := 8) scNr.nd rfl (.inl rfl) pe_int)) pss_nil)
      (pss_cons (ps_set (i := 9) scNr.nd rfl (.inl rfl) (pe_call TK.ok (hr.mono (by decide)) rfl TK.mg TK.kp TK.bi .nil pass0 (pa_cons (pv 0) (pa_cons (pe_callB call_len_seq (by rfl) B.len PySem.boot_len (pa_cons (pv 3) pa_nil)) pa_nil))))
      (pss_cut (ps_setLc (i := 10) (own := [("_law_word_here", 16)]) (g := gName 16) (te := (tVar 16)) (tt := tTest (tOp (rIn K true) (tVar 16) (tLc (iList K (tVar 6)) (gName 17) tYes (tOp (rIxT K) (tVar 17) (tC (.int 0))) [17]))) rfl scNr.nd rfl rfl (sw_true rfl rfl rfl (by decide +kernel)) (pi_list (pe_op op_catF (pe_slice sl_list (pv 3) (po_some (pv 9)) po_none) (pe_slice sl_list (pv 3) po_none (po_some (pv 9))))) (blkOk_by (N := nNr) (sc := defScope sNr) (by decide +kernel)) (fun _ _ _ _ _ => pg_name (i := 16) scNr.nd rfl (Or.inl rfl)) (fun _ _ _ _ _ => pts_one (pt_cmpR (show OpR _ (compareOp .NotIn) (rIn K true) from op_notIn_seq) (pv 16) (pe_lc (own := [("_law_field_here", 17)]) (g := gName 17) (tt := tYes) (te := (tOp (rIxT K) (tVar 17) (tC (.int 0)))) rfl scNr.nd (pi_list (pv 6)) (by exact blkOk_in (N := nNr) (defScope sNr) rfl (by decide +kernel)) (fun _ _ _ _ _ => pg_name (i := 17) scNr.nd rfl (Or.inl rfl)) (fun _ _ _ _ _ => pts_nil) (fun _ _ _ _ _ => (pe_ix ix_tup (pv 17) pe_int (fun _ _ => rfl)))) (by rfl))) (fun _ _ _ _ _ => (pv 16)))
      (pss_cons (ps_set (i := 11) scNr.nd rfl (.inl rfl) (pe_lst pa_nil))
      (pss_cut (ps_for PassesOwn.never rfl (pi_range1 rfl B.range (pa_cons (pe_op op_add (pv 8) (pe_call TK.ok (hr.mono (by decide)) rfl TK.mg TK.kp TK.bi .nil pass0 (pa_cons (pv 0) (pa_cons (pe_op op_sub pe_int (pv 8)) pa_nil)))) pa_nil)) (pg_name (i := 12) scNr.nd rfl (Or.inl rfl)) 
        (pss_one (ps_expr (pe_bm PySem.F.plainAttrs_list PySem.F.slot_list_append PySem.F.type_list_append mt_append (pv 11) (pa_cons (pe_call FL.ok (hr.mono (by decide)) rfl FL.mg FL.kp FL.bi .nil pass0 (pa_cons (pv 0) (pa_cons (pe_ix ix_list (pv 10) (pv 12) (fun _ _ => rfl)) (pa_cons (pv 2) (pa_cons (pv 3) (pa_cons (pv 7) pa_nil)))))) pa_nil)))))
      (pss_cons (ps_set (i := 13) scNr.nd rfl (.inl rfl) pe_non)
      (pss_cut (ps_if (pt_val (pv 7)) 
        (pss_one (ps_set (i := 13) scNr.nd rfl (.inl rfl) (pe_ix ix_tup (pe_call OO.ok (hr.mono (by decide)) rfl OO.mg OO.kp OO.bi .nil pass0 (pa_cons (pv 0) (pa_cons (pv 11) pa_nil))) pe_int (fun _ _ => rfl)))) pss_nil)
      (pss_cut (ps_set (i := 14) scNr.nd rfl (.inl rfl) (pe_cmpR op_eq (pe_callB call_len_seq (by rfl) B.len PySem.boot_len (pa_cons (pe_lc (own := [("_law_field_here", 17)]) (g := gName 17) (te := (tVar 17)) (tt := (tTest (tOp rNe (tOp (rIxT K) (tVar 17) (tC (.int 1))) (tC (.str "mark"))))) rfl scNr.nd (pi_list (pe_op op_catF (pv 6) (pv 11))) (blkOk_by (N := nNr) (sc := defScope sNr) (by decide +kernel)) (fun _ _ _ _ _ => pg_name (i := 17) scNr.nd rfl (Or.inl rfl)) (fun _ _ _ _ _ => pts_one (pt_cmpR op_ne (pe_ix ix_tup (pv 17) pe_int (fun _ _ => rfl)) pe_str (nomark _))) (fun _ _ _ _ _ => (pv 17))) pa_nil)) pe_int (nomark _)))
      (pss_cut (ps_if (PW.pt (pw_and (pt_cmpR op_eq (pv 4) pe_str (nomark _)) (pw_and (pt_val (pv 14)) (pw_and (pt_cmpR op_gt (pe_callB call_len_seq (by rfl) B.len PySem.boot_len (pa_cons (pe_op op_catF (pv 6) (pv 11)) pa_nil)) pe_int (nomark _)) (pw_and1 (pt_cmpR op_eq (pe_call TK.ok (hr.mono (by decide)) rfl TK.mg TK.kp TK.bi .nil pass0 (pa_cons (pv 0) (pa_cons pe_int pa_nil))) pe_int (nomark _))))))) 
        (pss_one (ps_set (i := 13) scNr.nd rfl (.inl rfl) (pe_ix ix_tup (pe_call OO.ok (hr.mono (by decide)) rfl OO.mg OO.kp OO.bi .nil pass0 (pa_cons (pv 0) (pa_cons (pe_op op_catF (pv 6) (pv 11)) pa_nil))) pe_int (fun _ _ => rfl)))) pss_nil)
      (pss_one (ps_ret (pe_disp (pps_cons pe_str (pe_ix ix_list (pv 2) (pe_callB call_len_seq (by rfl) B.len PySem.boot_len (pa_cons (pv 1) pa_nil)) (fun _ _ => rfl)) (pps_cons pe_str (pv 5) (pps_cons pe_str (pe_cmpR op_eq (pv 4) pe_str (nomark _)) (pps_cons pe_str (pe_cmpR op_eq (pv 4) pe_str (nomark _)) (pps_cons pe_str (pv 13) (pps_cons pe_str (pe_cmpR op_eq (pv 4) pe_str (nomark _)) (pps_cons pe_str (pv 11) pps_nil))))))) rfl rfl (by simp) (by decide))))))))))))))))))), ?_⟩
    refine ⟨_, rfl, _, rfl, p, c, l, ns, es, rfl, pn, R, by omega, fun fl H1 g1 flv => ?_⟩
    refine ⟨by show 0 ≤ sizeLine; decide, fun hd0 hhd0 => ?_⟩
    have s0 : Same H1 (upd H1 hd0 (.lst [])) := same_new hhd0
    refine ⟨fun σ H' => ∃ (bo : Option Str) (hd : Addr) (hus : List V) (held : List FV), σ = [some (.ref p), some (.ref l), some (.ref nl), some (.ref q), some (.str fl), some (tv bo), some (.ref hd), none, none, none, none, none, none, none, none, none, none, none] ∧ Go p c ns H H' ∧ H' hd = some (.lst hus) ∧ Ev (rLF K) H' hus held ∧
        (fl ≠ "heir" → bo = none ∧ held = []) ∧ (fl = "heir" → ∃ y ∈ es, bo = some y.n ∧ y.h = true ∧ held = y.fs), ?_, ?_⟩
    · refine ⟨_, rfl, rfl, _, rfl, ?_⟩
      rw [dec_s]
      have g2 := g1.trans (Go.of g1.pn s0)
      by_cases e : fl = ("heir" : Str)
      · rw [decide_eq_true e]
        obtain ⟨us, hl, ev⟩ := R.go pn g2
        refine iteT ⟨_, rfl, _, rfl, l, rfl, ⟨us, hl⟩, fun D hD => ?_⟩
        refine lc_sieve (R := cR (rRow K) (upd H1 hd0 (.lst []))) (R2 := rW) mR mW (fun e => e.h) (fun e => e.n) (cs := es) walk_list (by omega) (fun H' s => s.seq hl) hD (evB ev _) ?_ ?_ ?_
        · rintro v e H2 Rq _ s2 r kk
          obtain ⟨d, lo, ws, rfl, hd, _⟩ := rRow_same s2 (show rRow K _ v e from r)
          exact ⟨_, rfl, d, _, rfl, g_heirs hd, _, rfl, kk _ (Same.refl _)⟩
        · rintro v e H2 Rq _ _ s2 r kk
          obtain ⟨d, lo, ws, rfl, hd, _⟩ := rRow_same s2 (show rRow K _ v e from r)
          exact ⟨_, rfl, d, _, rfl, g_name hd, kk _ _ (Same.refl _) rfl⟩
        intro H2 zs s2 hz ez
        have := ev_words_eq ez
        subst this
        dsimp only [tCons, tC, tNil, List.append_nil]
        have g3 := g2.trans (Go.of g2.pn s2)
        obtain ⟨z0, mz0, hz0⟩ := flv.heir e
        have l1 : 0 < (es.filter fun e => e.h).length := List.length_pos_of_mem (List.mem_filter.mpr ⟨mz0, hz0⟩)
        have l2 := List.length_filter_le (fun e : KD => e.h) es
        refine one_go g3.pn (SqL.of hz) (by rw [List.length_map, List.length_map]; exact l1) (by rw [List.length_map, List.length_map]; omega) fun x H3 mx g4 => ?_
        obtain ⟨nm, mn, rfl⟩ := List.mem_map.mp mx
        obtain ⟨y, my, rfl⟩ := List.mem_map.mp mn
        obtain ⟨my, hy⟩ := List.mem_filter.mp my
        have g5 := g3.trans g4
        have ndE : (es.map (·.n)).Nodup := by rw [dr.n]; exact knd.sublist (List.take_sublist _ _)
        have yb := dr.h y my hy
        have ea : allF es y = y.fs := by unfold allF; rw [yb]
        have f4 := dr.f4 y my
        refine ⟨_, rfl, _, rfl, l, y.n, es, y, rfl, R.go pn g5, by omega, atName_of ndE my, fun z e => absurd (yb.symm.trans e) (by simp), by rw [ea]; omega, fun Dh hus H4 hDh hhus eh s4 => ?_⟩
        rw [ea] at eh
        exact ⟨some y.n, Dh, hus, y.fs, rfl, g5.trans (Go.of g5.pn s4), hhus, eh, fun ne => absurd e ne, fun _ => ⟨y, my, rfl, hy, rfl⟩⟩
      · rw [decide_eq_false e]
        exact iteF ⟨none, hd0, [], [], rfl, g2, upd_same, Ev.nil, fun _ => ⟨rfl, rfl⟩, fun h => absurd h e⟩
    rintro _ H2 ⟨bo, hd, hus, held, rfl, g2, hhd, eh, nh, ih⟩
    have h4 : held.length ≤ 4 := by
      by_cases e : fl = ("heir" : Str)
      · obtain ⟨y, my, _, _, rfl⟩ := ih e
        exact dr.f4 y my
      · rw [(nh e).2]
        exact Nat.zero_le _
    have pn2 := g2.pn
    refine ⟨_, rfl, by show 2 ≤ sizeLine; decide, fun m hm => ?_⟩
    have sm := same_new (o := .lst [.str "keyed", .str "registered"]) hm
    refine ⟨m, _, rfl, .inl (SqL.of upd_same), rfl, rfl, ?_⟩
    obtain ⟨lb, elb, ilb⟩ : ∃ lb : Bool, inV (.str fl) [.str "keyed", .str "registered"] = lb ∧ (lb = true ↔ (fl = "keyed" ∨ fl = "registered")) := by
      refine ⟨_, rfl, ?_⟩
      rw [show inV (.str fl) [.str "keyed", .str "registered"] = decide (fl ∈ (["keyed", "registered"] : List Str)) from mem_in (ns := ["keyed", "registered"]), decide_eq_true_eq]
      simp
    show tSeq _ _ _ (List.set _ 7 (some (V.bl (inV (.str fl) [.str "keyed", .str "registered"])))) _
    rw [elb]
    refine ⟨fun σ H' => ∃ ls : Int, σ = [some (.ref p), some (.ref l), some (.ref nl), some (.ref q), some (.str fl), some (tv bo), some (.ref hd), some (.bl lb), some (.int ls), none, none, none, none, none, none, none, none, none] ∧ (ls = 0 ∨ ls = 1) ∧ (lb = true → ls = 1) ∧ H' = upd H2 m (.lst [.str "keyed", .str "registered"]), ?_, ?_⟩
    · refine ⟨_, rfl, lb, rfl, ?_⟩
      cases lb with
      | true => exact iteT ⟨1, rfl, .inr rfl, fun _ => rfl, rfl⟩
      | false => exact iteF ⟨0, rfl, .inl rfl, fun e => (by cases e), rfl⟩
    rintro _ _ ⟨ls, rfl, lb1, lb2, rfl⟩
    have g3 := g2.trans (Go.of pn2 sm)
    have po3 := po.go pn g3
    refine ⟨_, rfl, _, rfl, q, _, rfl, .inl po3.at_, ?_⟩
    rw [List.length_map]
    dsimp only [tCons, tC, tNil, List.append_nil]
    have l5 := po.l5
    refine take_go (b := ws.length) g3.pn (by omega) (by omega) fun v H4 v0 v1 g4 => ?_
    obtain ⟨j, rfl⟩ := Int.eq_ofNat_of_zero_le v0
    have g34 := g3.trans g4
    have po4 := po.go pn g34
    have hhd4 := g4.but _ _ (Go.ne g3.pn (sm _ _ hhd) (by intro x z; cases z)) (sm _ _ hhd)
    have eh4 := ev_go (eh.same (mLF K) sm) g3.pn g4
    refine ⟨fun σ H' => ∃ (fr : Addr) (fs : List Str), σ = [some (.ref p), some (.ref l), some (.ref nl), some (.ref q), some (.str fl), some (tv bo), some (.ref hd), some (.bl lb), some (.int ls), some (.int j), some (.ref fr), none, none, none, none, none, none, none] ∧ Same H4 H' ∧
        H' fr = some (.lst (fs.map V.str)) ∧ fs.Nodup ∧ (∀ u ∈ fs, u ∈ ws ∧ u ∉ held.map (·.n)) ∧ 4 ≤ fs.length, ?_, ?_⟩
    · refine ⟨_, rfl, _, rfl, _, rfl, q, _, rfl, po4.at_, fun a ha => ?_⟩
      rw [cut_hi (by rw [List.length_map]; omega)]
      have sa := same_new (o := .lst ((ws.map V.str).drop j)) ha
      refine ⟨_, rfl, _, rfl, _, rfl, q, _, rfl, sa.seq po4.at_, fun b hb => ?_⟩
      rw [cut_lo (by rw [List.length_map]; omega)]
      have sb := same_new (o := .lst ((ws.map V.str).take j)) hb
      refine ⟨a, b, _, _, rfl, rfl, .inl (sb _ _ upd_same), .inl upd_same, by rw [List.length_drop, List.length_take, List.length_map, sizeLine_eq]; omega, fun e he => ?_⟩
      have se := same_new (o := .lst ((ws.map V.str).drop j ++ (ws.map V.str).take j)) he
      have e1 : (ws.map V.str).drop j ++ (ws.map V.str).take j = (ws.drop j ++ ws.take j).map V.str := by
        rw [List.map_append, List.map_drop, List.map_take]
      have s4 := sa.trans (sb.trans se)
      rw [e1] at s4 ⊢
      have hrot := rot_perm ws j
      refine ⟨e, rfl, ⟨_, SqL.of upd_same⟩, fun D hD => ?_⟩
      refine lc_sieve mW mW (fun x => !decide (x ∈ held.map (·.n))) id (cs := ws.drop j ++ ws.take j) walk_list (by rw [hrot.length_eq]; omega) (fun H' s => s.seq (SqL.of upd_same)) hD (ev_words _) ?_ ?_ ?_
      · rintro _ x H5 Rq mx s5 rfl kk2
        have s45 := s4.trans s5
        refine ⟨_, rfl, _, rfl, hd, rfl, ⟨_, SqL.of (s45 _ _ hhd4)⟩, fun D2 hD2 => ?_⟩
        refine lc_sieve (mLF K) mW (fun _ => true) (fun g => g.n) (cs := held) walk_list (by omega) (fun H' s => SqL.of (s _ _ (s45 _ _ hhd4))) hD2 (eh4.same (mLF K) s45) (fun v c H2 Rq _ _ _ kk => kk _ (Same.refl _)) ?_ ?_
        · rintro v g H6 Rq _ _ _ ⟨t, wt, rfl, ht, _⟩ kk
          exact ⟨_, rfl, t, _, _, _, rfl, rfl, ht, atI_nat (j := 0) rfl, kk _ _ (Same.refl _) rfl⟩
        intro H6 zs s6 hz ez
        rw [filter_all] at ez
        have := ev_words_eq ez
        subst this
        refine ⟨D2, _, rfl, .inl (SqL.of hz), rfl, flat_strs _, _, rfl, ?_⟩
        show Rq (!inV (.str x) ((held.map (·.n)).map V.str)) _
        rw [mem_in]
        exact kk2 _ s6
      · rintro _ x H5 Rq _ _ _ rfl kk2
        exact ⟨_, rfl, kk2 _ _ (Same.refl _) rfl⟩
      intro H5 zs s5 hz ez
      rw [List.map_id] at ez
      have := ev_words_eq ez
      subst this
      have ndr : (ws.drop j ++ ws.take j).Nodup := (hrot.nodup_iff).mpr po.nd
      refine ⟨D, _, rfl, s4.trans s5, hz, ndr.filter _, fun u hu => ?_, ?_⟩
      · obtain ⟨mu, hu⟩ := List.mem_filter.mp hu
        exact ⟨hrot.mem_iff.mp mu, by simpa using hu⟩
      · have := less_out (hs := held.map (·.n)) ndr
        rw [hrot.length_eq, List.length_map] at this
        omega
    rintro _ H5 ⟨fr, fs, rfl, s5, hfr, nfs, sfs, lfs⟩
    have g35 := g34.trans (Go.of g34.pn s5)
    have pn5 := g35.pn
    have lk12 := k12
    refine ⟨by show 0 ≤ sizeLine; decide, fun ow how => ?_⟩
    have so : Same H5 (upd H5 ow (.lst [])) := same_new how
    refine ⟨fun σ H' => ∃ (v12 : Option V) (us : List V) (gs : List FV), σ = [some (.ref p), some (.ref l), some (.ref nl), some (.ref q), some (.str fl), some (tv bo), some (.ref hd), some (.bl lb), some (.int ls), some (.int j), some (.ref fr), some (.ref ow), v12, none, none, none, none, none] ∧ Go p c ns H5 H' ∧
        H' ow = some (.lst us) ∧ Ev (rLF K) H' us gs ∧ gs.map (·.n) = fs.take gs.length ∧ gs.length ≤ 4 ∧ (∀ g ∈ gs, FldOk g ∧ (∀ t, g.t = some t → t = "any" ∨ t ∈ kn) ∧ (lb = true → g.m = "mark")) ∧ (lb = true → 1 ≤ gs.length), ?_, ?_⟩
    · refine ⟨_, rfl, _, rfl, _, rfl, _, _, rfl, rfl, ?_⟩
      dsimp (config := { proj := false }) only [tCons, tC, tNil, List.append_nil]
      refine take_go (b := 5 - ls) (pn5.same so) (by omega) (by omega) fun v H6 v0 v1 g6 => ?_
      refine ⟨_, _, rfl, rfl, ls + v, rfl, by omega, by omega, ?_⟩
      have g56 := (Go.of pn5 so).trans g6
      have now : ow ≠ p := Go.ne (pn5.same so) upd_same (by intro x z; cases z)
      refine for_it walk_range (fun i σ H' => ∃ (v12 : Option V) (us : List V) (gs : List FV), σ = [some (.ref p), some (.ref l), some (.ref nl), some (.ref q), some (.str fl), some (tv bo), some (.ref hd), some (.bl lb), some (.int ls), some (.int j), some (.ref fr), some (.ref ow), v12, none, none, none, none, none] ∧ Go p c ns H5 H' ∧
        H' ow = some (.lst us) ∧ Ev (rLF K) H' us gs ∧ gs.map (·.n) = fs.take gs.length ∧ gs.length = i ∧ (∀ g ∈ gs, FldOk g ∧ (∀ t, g.t = some t → t = "any" ∨ t ∈ kn) ∧ (lb = true → g.m = "mark")))
        ⟨none, [], [], rfl, g56, g6.but _ _ now upd_same, Ev.nil, rfl, rfl, fun g h => by cases h⟩ (fun _ _ _ _ _ => trivial) ?_ ?_
      · rintro i y σ _ H7 hi ⟨v12, us, gs, rfl, g7, how7, eg, ng, lg, fg⟩ ⟨rfl, rfl⟩
        have hi4 : i < 4 := by omega
        have g37 := g35.trans g7
        have hfr7 := g7.but _ _ (Go.ne pn5 hfr (by intro x z; cases z)) hfr
        have hx : fs[i]? = some fs[i] := List.getElem?_eq_getElem (by omega)
        generalize fs[i] = u at hx
        have su := sfs u (List.mem_of_getElem? hx)
        have ea : atI (fs.map V.str) (0 + (i : Int)) = some (.str u) := by
          rw [Int.zero_add]
          exact atI_nat (j := i) (by rw [List.getElem?_map, hx]; rfl)
        refine ⟨_, rfl, .inl ⟨rfl, _, SqL.of how7⟩, _, rfl, _, rfl, _, rfl, fr, _, _, _, rfl, rfl, SqL.of hfr7, ea, ?_⟩
        refine ⟨_, rfl, _, rfl, _, rfl, p, c, q, nl, ns, u, kn, ws, lb, rfl, g7.pn, po.go pn g37, rd_go pn g37 hn, by omega, kk, po.w u su.1, fun v g H8 g8 rg og ng2 tg mg => ?_⟩
        have how8 := g8.but _ _ (Go.ne g7.pn how7 (by intro x z; cases z)) how7
        refine ⟨ow, us, v, rfl, rfl, how8, by rw [sizeLine_eq, eg.1]; omega, ?_⟩
        have stay : Stay H8 (upd H8 ow (.lst (us ++ [v]))) := .kp (Kp.lst how8)
        refine ⟨_, us ++ [v], gs ++ [g], rfl, Go.over pn5 (g7.trans g8) how, upd_same, ?_, ?_, by simp [lg], fun g2 m2 => ?_⟩
        · have e8 := ev_go eg g7.pn g8
          have ev2 : Ev (rLF K) H8 (us ++ [v]) (gs ++ [g]) := e8.append (Ev.cons rg Ev.nil)
          exact ⟨ev2.1, fun i x c a b => rLF_stay stay (ev2.2 i x c a b)⟩
        · rw [List.map_append, ng, List.length_append, lg]
          show fs.take i ++ [g.n] = fs.take (i + 1)
          rw [take_snoc hx, ng2]
        · rcases List.mem_append.mp m2 with m2 | m2
          · exact fg g2 m2
          · rw [List.mem_singleton.mp m2]
            exact ⟨og, tg, mg⟩
      · rintro σ H7 ⟨v12, us, gs, rfl, g7, how7, eg, ng, lg, fg⟩
        exact ⟨v12, us, gs, rfl, g7, how7, eg, ng, by omega, fg, fun e => by have := lb2 e; omega⟩
    rintro _ H7 ⟨v12, us, gs, rfl, g7, how7, eg, ng, l4, fg, lbg⟩
    have pn7 := g7.pn
    have now7 : ow ≠ p := Go.ne pn7 how7 (by intro x z; cases z)
    refine ⟨fun σ H' => ∃ (kx : Option Str), σ = [some (.ref p), some (.ref l), some (.ref nl), some (.ref q), some (.str fl), some (tv bo), some (.ref hd), some (.bl lb), some (.int ls), some (.int j), some (.ref fr), some (.ref ow), v12, some (tv kx), none, none, none, none] ∧ Go p c ns H7 H' ∧
        (lb = true → ∃ g ∈ gs, kx = some g.n) ∧ (lb = false → kx = none), ?_, ?_⟩
    · refine ⟨_, rfl, lb, rfl, ?_⟩
      cases elb2 : lb with
      | false => exact iteF ⟨none, rfl, Go.refl pn7, fun e => by (first | cases e | (rw [elb2] at e; cases e)), fun _ => rfl⟩
      | true =>
        refine iteT ⟨_, rfl, _, rfl, ?_⟩
        dsimp only [tCons, tC, tNil, List.append_nil]
        have lg1 := lbg elb2
        refine one_go pn7 (SqL.of how7) (by rw [eg.1]; omega) (by rw [eg.1]; omega) fun x H8 mx g8 => ?_
        obtain ⟨i, hi⟩ := List.getElem?_of_mem mx
        obtain ⟨g, hg, t, wt, rfl, ht, _⟩ := eg.at hi
        exact ⟨t, _, _, _, rfl, rfl, g8.sqT pn7 ht, atI_nat (j := 0) rfl, some g.n, rfl, g8, fun _ => ⟨g, List.mem_of_getElem? hg, rfl⟩, fun e => by (first | cases e | (rw [elb2] at e; cases e))⟩
    rintro _ H8 ⟨kx, rfl, g8, kx1, kx0⟩
    have pn8 := g8.pn
    have g38 := (g35.trans g7).trans g8
    have hhd8 := (g7.trans g8).but _ _ (Go.ne pn5 (s5 _ _ hhd4) (by intro x z; cases z)) (s5 _ _ hhd4)
    have how8 := g8.but _ _ now7 how7
    have eh8 := ev_go (eh4.same (mLF K) s5) pn5 (g7.trans g8)
    have eg8 := ev_go eg pn7 g8
    have eall := eh8.append eg8
    have lall : hus.length + us.length ≤ 8 := by rw [eh8.1, eg8.1]; omega
    refine ⟨fun σ H' => ∃ (mk : Bool), σ = [some (.ref p), some (.ref l), some (.ref nl), some (.ref q), some (.str fl), some (tv bo), some (.ref hd), some (.bl lb), some (.int ls), some (.int j), some (.ref fr), some (.ref ow), v12, some (tv kx), some (.bl mk), none, none, none] ∧ Same H8 H' ∧ (mk = true → ∀ g ∈ held ++ gs, g.m = "mark"), ?_, ?_⟩
    · refine ⟨_, rfl, _, rfl, hd, ow, _, _, rfl, rfl, .inl hhd8, .inl how8, by rw [sizeLine_eq]; omega, fun a ha => ⟨a, rfl, ⟨_, SqL.of upd_same⟩, fun D hD => ?_⟩⟩
      have sa := same_new (o := .lst (hus ++ us)) ha
      refine lc_sieve (mLF K) (mLF K) slotB id (cs := held ++ gs) walk_list (by rw [List.length_append]; omega) (fun H' s => s.seq (SqL.of upd_same)) hD (eall.same (mLF K) sa) ?_ ?_ ?_
      · rintro v c H9 Rq _ s9 ⟨t, wt, rfl, ht, _⟩ kk2
        refine ⟨_, rfl, t, _, _, _, rfl, rfl, ht, atI_nat (j := 1) rfl, rfl, _, rfl, ?_⟩
        rw [dec_s]
        exact kk2 _ (Same.refl _)
      · rintro v c H9 Rq _ _ s9 r kk2
        exact ⟨_, rfl, kk2 _ _ (Same.refl _) r⟩
      intro H9 zs s9 hz ez
      rw [List.map_id] at ez
      refine ⟨D, _, rfl, .inl (SqL.of hz), rfl, _, rfl, sa.trans s9, fun e g mg => ?_⟩
      have e := of_decide_eq_true e
      have z0 : zs.length = 0 := by
        injection e with e
        omega
      rw [ez.1] at z0
      have nil := List.eq_nil_of_length_eq_zero z0
      cases sg : slotB g with
      | true =>
        have : g ∈ (held ++ gs).filter slotB := List.mem_filter.mpr ⟨mg, sg⟩
        rw [nil] at this
        cases this
      | false =>
        unfold slotB at sg
        simpa using sg
    rintro _ H9 ⟨mk, rfl, s9, mkm⟩
    have pn9 := pn8.same s9
    have hhd9 := s9 _ _ hhd8
    have how9 := s9 _ _ how8
    have lbh : lb = true → fl ≠ "heir" := fun e z => by
      rcases ilb.mp e with h | h <;> rw [h] at z <;> exact absurd z (by decide +kernel)
    have lbk : lb = true → ∃ g ∈ held ++ gs, kx = some g.n := fun e => let ⟨g, m, h⟩ := kx1 e; ⟨g, List.mem_append_right _ m, h⟩
    have gall : lb = true → ∀ g ∈ held ++ gs, g.m = "mark" := fun e g m => by
      rw [(nh (lbh e)).2, List.nil_append] at m
      exact (fg g m).2.2 e
    refine ⟨fun σ H' => ∃ (ky : Option Str), σ = [some (.ref p), some (.ref l), some (.ref nl), some (.ref q), some (.str fl), some (tv bo), some (.ref hd), some (.bl lb), some (.int ls), some (.int j), some (.ref fr), some (.ref ow), v12, some (tv ky), some (.bl mk), none, none, none] ∧ Go p c ns H9 H' ∧
        (∀ z, ky = some z → (∀ g ∈ held ++ gs, g.m = "mark") ∧ z ∈ (held ++ gs).map (·.n)) ∧ (lb = true → ky ≠ none) ∧ (ky ≠ none → lb = true ∨ fl = "heir"), ?_, ?_⟩
    · have stay : ∃ (ky : Option Str), [some (V.ref p), some (.ref l), some (.ref nl), some (.ref q), some (.str fl), some (tv bo), some (.ref hd), some (.bl lb), some (.int ls), some (.int j), some (.ref fr), some (.ref ow), v12, some (tv kx), some (.bl mk), none, none, none] = [some (.ref p), some (.ref l), some (.ref nl), some (.ref q), some (.str fl), some (tv bo), some (.ref hd), some (.bl lb), some (.int ls), some (.int j), some (.ref fr), some (.ref ow), v12, some (tv ky), some (.bl mk), none, none, none] ∧
        (∀ z, ky = some z → (∀ g ∈ held ++ gs, g.m = "mark") ∧ z ∈ (held ++ gs).map (·.n)) ∧ (lb = true → ky ≠ none) ∧ (ky ≠ none → lb = true ∨ fl = "heir") := by
        refine ⟨kx, rfl, fun z e => ?_, fun e => ?_, fun ne => ?_⟩
        · cases hlb : lb with
          | true =>
            obtain ⟨g, m, h⟩ := lbk hlb
            rw [h] at e
            cases e
            exact ⟨gall hlb, List.mem_map_of_mem m⟩
          | false =>
            rw [kx0 hlb] at e
            cases e
        · obtain ⟨g, _, h⟩ := lbk e
          rw [h]
          simp
        · cases hlb : lb with
          | true => exact .inl rfl
          | false => exact absurd (kx0 hlb) ne
      have out : ∀ {H' : Hp}, Go p c ns H9 H' → ∃ (ky : Option Str), [some (V.ref p), some (.ref l), some (.ref nl), some (.ref q), some (.str fl), some (tv bo), some (.ref hd), some (.bl lb), some (.int ls), some (.int j), some (.ref fr), some (.ref ow), v12, some (tv kx), some (.bl mk), none, none, none] = [some (.ref p), some (.ref l), some (.ref nl), some (.ref q), some (.str fl), some (tv bo), some (.ref hd), some (.bl lb), some (.int ls), some (.int j), some (.ref fr), some (.ref ow), v12, some (tv ky), some (.bl mk), none, none, none] ∧ Go p c ns H9 H' ∧
        (∀ z, ky = some z → (∀ g ∈ held ++ gs, g.m = "mark") ∧ z ∈ (held ++ gs).map (·.n)) ∧ (lb = true → ky ≠ none) ∧ (ky ≠ none → lb = true ∨ fl = "heir") := fun g => let ⟨ky, a, b⟩ := stay; ⟨ky, a, g, b⟩
      refine ⟨_, rfl, rfl, _, rfl, ?_⟩
      rw [dec_s]
      by_cases ef : fl = ("heir" : Str)
      case neg =>
        rw [decide_eq_false ef]
        exact iteF (iteF (out (Go.refl pn9)))
      rw [decide_eq_true ef]
      refine iteT ⟨_, rfl, mk, rfl, ?_⟩
      cases emk : mk with
      | false =>
        have o2 := out (Go.refl pn9)
        rw [emk] at o2
        exact iteF (iteF o2)
      | true =>
        refine iteT ⟨_, rfl, _, rfl, hd, ow, _, _, rfl, rfl, .inl hhd9, .inl how9, by rw [sizeLine_eq]; omega, fun a ha => ⟨a, _, rfl, .inl (SqL.of upd_same), _, _, rfl, rfl, _, rfl, ?_⟩⟩
        have sa := same_new (o := .lst (hus ++ us)) ha
        have ga := Go.of pn9 sa
        refine ite2 (fun l0 => ?_) (fun _ => ?_)
        · have l0 := of_decide_eq_true l0
          refine ⟨_, rfl, ?_⟩
          dsimp (config := { proj := false }) only [tCons, tC, tNil, List.append_nil]
          refine take_go (b := 2) ga.pn (by decide) (by decide) fun v H10 v0 v1 gt => ?_
          have g910 := ga.trans gt
          refine ⟨rfl, _, rfl, ?_⟩
          refine ite2 (fun _ => ?_) (fun _ => ?_)
          · have hhd10 := g910.but _ _ (Go.ne pn9 hhd9 (by intro x z; cases z)) hhd9
            have how10 := g910.but _ _ (Go.ne pn9 how9 (by intro x z; cases z)) how9
            have eall10 := ev_go (eall.same (mLF K) s9) pn9 g910
            refine ⟨_, rfl, _, rfl, _, rfl, hd, ow, _, _, rfl, rfl, .inl hhd10, .inl how10, by rw [sizeLine_eq]; omega, fun b hb => ?_⟩
            have sb := same_new (o := .lst (hus ++ us)) hb
            dsimp (config := { proj := false }) only [tCons, tC, tNil, List.append_nil]
            refine one_go (g910.pn.same sb) (SqL.of upd_same) (by have := l0; omega) (by rw [List.length_append]; omega) fun x H11 mx g11 => ?_
            obtain ⟨i, hi⟩ := List.getElem?_of_mem mx
            obtain ⟨g, hg, t, wt, rfl, ht, _⟩ := (eall10.same (mLF K) sb).at hi
            have mg := List.mem_of_getElem? hg
            refine ⟨t, _, _, _, rfl, rfl, g11.sqT (g910.pn.same sb) ht, atI_nat (j := 0) rfl, some g.n, by rw [← emk]; rfl, g910.trans ((Go.of g910.pn sb).trans g11), fun z e => ?_, fun _ => by simp, fun _ => .inr ef⟩
            cases e
            exact ⟨mkm emk, List.mem_map_of_mem mg⟩
          · have o2 := out g910
            rw [emk] at o2
            exact o2
        · have o2 := out ga
          rw [emk] at o2
          exact iteF o2
    rintro _ H10 ⟨ky, rfl, g10, kym, kyl, kyn⟩
    have g10' := g38.trans ((Go.of pn8 s9).trans g10)
    have pn10 := g10.pn
    have how10 := g10.but _ _ (Go.ne pn9 how9 (by intro x z; cases z)) how9
    have eg10 := ev_go (eg8.same (mLF K) s9) pn9 g10
    obtain ⟨rs, hl, er⟩ := R.go pn g10'
    have hkn : kn[es.length]? = some kn[es.length] := List.getElem?_eq_getElem lt
    generalize kn[es.length] = kname at hkn
    intro d hd2
    have sd := same_new (o := .dK []) hd2
    have ea : atI (kn.map V.str) ((rs.length : Nat) : Int) = some (.str kname) := by
      rw [er.1]
      exact atI_nat (j := es.length) (by rw [List.getElem?_map, hkn]; rfl)
    obtain ⟨lor, hlor⟩ : ∃ x, SqL K H10 nl x ∧ x = kn.map V.str := ⟨_, .inl (rd_go pn g10' hn), rfl⟩
    refine ⟨_, rfl, _, rfl, l, _, rfl, .inl (sd.seq hl), nl, _, _, _, rfl, rfl, sd.seq (hlor.2 ▸ hlor.1), ea, ?_⟩
    refine ⟨_, rfl, _, rfl, rfl, _, rfl, rfl, _, rfl, _, rfl, rfl, _, rfl, ?_⟩
    obtain ⟨bf, ebf, ibf⟩ : ∃ b : Bool, decide (V.str fl = V.str "frozen") = b ∧ (b = true → fl = "frozen") := ⟨_, rfl, fun e => by rw [dec_s] at e; exact of_decide_eq_true e⟩
    obtain ⟨bh, ebh, ibh⟩ : ∃ b : Bool, decide (V.str fl = V.str "open") = b ∧ (b = true → fl = "open") := ⟨_, rfl, fun e => by rw [dec_s] at e; exact of_decide_eq_true e⟩
    obtain ⟨br, ebr, ibr⟩ : ∃ b : Bool, decide (V.str fl = V.str "registered") = b ∧ (b = true → fl = "registered") := ⟨_, rfl, fun e => by rw [dec_s] at e; exact of_decide_eq_true e⟩
    have nbf : fl ≠ "frozen" → bf = false := fun n => by cases e : bf with | false => rfl | true => exact absurd (ibf e) n
    have nbh : fl ≠ "open" → bh = false := fun n => by cases e : bh with | false => rfl | true => exact absurd (ibh e) n
    refine ⟨upd_same, [(Sum.inr "name", .str kname), (Sum.inr "base", tv bo), (Sum.inr "frozen", .bl bf), (Sum.inr "heirs", .bl bh), (Sum.inr "key", tv ky), (Sum.inr "registered", .bl br), (Sum.inr "own", .ref ow)], by rw [ebf, ebh, ebr]; rfl, by show 7 ≤ 15; decide, ?_⟩
    have rm := row_made (lo := ow) (x := ⟨kname, gs, bo, bf, bh, ky, br⟩)
    simp only at rm
    rw [rm, upd_upd]
    have sd2 : Same H10 (upd H10 d (.dK (rowD ⟨kname, gs, bo, bf, bh, ky, br⟩ ow))) := same_new hd2
    have ehl : allF es ⟨kname, gs, bo, bf, bh, ky, br⟩ = held ++ gs := by
      by_cases e : fl = ("heir" : Str)
      · obtain ⟨y, my, rfl, _, rfl⟩ := ih e
        have ndE : (es.map (·.n)).Nodup := by rw [dr.n]; exact knd.sublist (List.take_sublist _ _)
        have h2 : (es.find? fun e => decide (e.n = y.n)) = some y := atName_of ndE my
        simp only [allF, baseFs, h2]
        rfl
      · obtain ⟨rfl, rfl⟩ := nh e
        rfl
    have ine : ∀ {a b : Str}, fl = a → a ≠ b → fl ≠ b := fun e n z => n (e.symm.trans z)
    have kno : ∀ {a : Str}, fl = a → a ≠ "keyed" → a ≠ "registered" → a ≠ "heir" → ky = none := fun e n1 n2 n3 => by
      cases ek : ky with
      | none => rfl
      | some z =>
        rcases kyn (by rw [ek]; simp) with h | h
        · rcases ilb.mp h with h | h
          · exact absurd (e.symm.trans h) n1
          · exact absurd (e.symm.trans h) n2
        · exact absurd (e.symm.trans h) n3
    refine k d ow us ⟨kname, gs, bo, bf, bh, ky, br⟩ _ (g10'.trans (Go.of pn10 sd2)) (go_none g10' hd2) upd_same (go_none g35 how) (sd2 _ _ how10) (eg10.same (mLF K) sd2) ⟨hkn, fun z e => ?_, fun ne => ?_, fun e => ?_, fun e => ?_, fun g m => (fg g m).1, l4, ?_, fun g m => (fg g m).2.1, fun z e => ?_, fun e => ?_⟩
    · have e : bo = some z := e
      by_cases ef : fl = ("heir" : Str)
      · obtain ⟨y, my, h1, hy, _⟩ := ih ef
        rw [h1] at e
        cases e
        exact ⟨y, my, rfl, hy⟩
      · rw [(nh ef).1] at e
        cases e
    · have ef : fl = ("heir" : Str) := Classical.byContradiction fun n => ne (nh n).1
      exact ⟨nbf (ine ef (by decide +kernel)), nbh (ine ef (by decide +kernel))⟩
    · have eo := ibh e
      exact ⟨nbf (ine eo (by decide +kernel)), kno eo (by decide +kernel) (by decide +kernel) (by decide +kernel)⟩
    · exact kyl (ilb.mpr (.inr (ibr e)))
    · rw [ehl, List.map_append, ng, List.nodup_append]
      refine ⟨?_, nfs.sublist (List.take_sublist _ _), fun a ma b mb e => ?_⟩
      · by_cases e : fl = ("heir" : Str)
        · obtain ⟨y, my, _, _, rfl⟩ := ih e
          exact dr.fnd y my
        · rw [(nh e).2]
          exact List.nodup_nil
      · subst e
        exact (sfs a (List.mem_of_mem_take mb)).2 ma
    · rw [ehl]
      exact kym z e
    · cases ek : ky with
      | none => rfl
      | some z =>
        rcases kyn (by rw [ek]; simp) with h | h
        · exact absurd e (flv.leaf (ilb.mp h))
        · obtain ⟨z, mz, _⟩ := flv.heir h
          rw [e] at mz
          cases mz
end
end Wh
set_option Elab.async false
set_option linter.all false
set_option maxRecDepth 100000
set_option maxHeartbeats 4000000
namespace Wh
open PySem PySem.Spec PyProof.Rows L2
open Wp hiding Same.refl Same.trans same_new boot_all
open W8 (Ev Rp Kp Mono same_new take_snoc rW rB mW mB ev_words ev_words_eq ev_bools_eq lc_sieve)
/-! ## what is right about the rows that were drawn -/
structure RowV (x : KD) : Prop where
  n : IsK x.n
  b : ∀ z, x.b = some z → IsK z ∧ z ≠ x.n
  fh : x.b ≠ none → x.f = false ∧ x.h = false
  hh : x.h = true → x.f = false ∧ x.k = none
  r : x.r = true → x.k ≠ none
  k : ∀ z, x.k = some z → IsW z
  fs : ∀ g ∈ x.fs, FldOk g
  nd : (x.fs.map (·.n)).Nodup
  f10 : x.fs.length ≤ 10
/-- a row that is not frozen -/
def clr (x : KD) : KD := { x with f := false }
theorem atName_clr (ks : List KD) (n : Str) : atName (ks.map clr) n = (atName ks n).map clr := by
  unfold atName
  rw [List.find?_map]
  rfl
theorem allF_clr (ks : List KD) (x : KD) : allF (ks.map clr) (clr x) = allF ks x := by
  unfold allF baseFs
  cases x with
  | mk n fs b f h k r =>
    show (match b with | none => fs | some b => _) = (match b with | none => fs | some b => _)
    cases b with
    | none => rfl
    | some b =>
      show ((((ks.map clr).find? fun e => decide (e.n = b)).map (·.fs)).getD []) ++ fs = (((ks.find? fun e => decide (e.n = b)).map (·.fs)).getD []) ++ fs
      rw [show ((ks.map clr).find? fun e => decide (e.n = b)) = (ks.find? fun e => decide (e.n = b)).map clr from atName_clr ks b]
      cases ks.find? fun e => decide (e.n = b) <;> rfl
theorem names_clr (ks : List KD) : (ks.map clr).map (·.n) = ks.map (·.n) := by
  rw [List.map_map]
  rfl
theorem letB_clr (ks : List KD) (t n : Str) : letB (ks.map clr) t n = letB ks t n := by
  unfold letB baseOf
  rw [show ((ks.map clr).find? fun e => decide (e.n = n)) = (ks.find? fun e => decide (e.n = n)).map clr from atName_clr ks n]
  cases ks.find? fun e => decide (e.n = n) <;> rfl
theorem leadOf_clr (ks : List KD) : leadOf (ks.map clr) = leadOf ks := by
  funext n
  unfold leadOf
  rw [atName_clr]
  cases atName ks n with
  | none => rfl
  | some x =>
    show ledBy (ks.map clr) (clr x) = ledBy ks x
    unfold ledBy
    rw [allF_clr, names_clr]
    congr 1
    funext o
    congr 2
    funext t
    exact letB_clr ks t o
theorem farK_clr (ks : List KD) (n : Str) : farK (ks.map clr) n = farK ks n := by
  unfold farK
  rw [leadOf_clr, names_clr]
theorem heirB_clr (ks : List KD) (n : Str) : heirB (ks.map clr) n = heirB ks n := by
  unfold heirB
  rw [show ((ks.map clr).find? fun e => decide (e.n = n)) = (ks.find? fun e => decide (e.n = n)).map clr from atName_clr ks n]
  cases ks.find? fun e => decide (e.n = n) <;> rfl
theorem alone_clr {es : List KD} {ns : List Str} {x : KD} : Alone (es.map clr) ns (clr x) ↔ Alone es ns x := by
  have e1 := allF_clr es x
  constructor
  · rintro ⟨h1, h2, h3, h4, h5, h6⟩
    rw [e1] at h3 h4 h5 h6
    refine ⟨by rw [names_clr] at h1; exact h1, fun b e => ?_, h3, h4, h5, h6⟩
    obtain ⟨y, my, e2, e3⟩ := h2 b e
    obtain ⟨z, mz, rfl⟩ := List.mem_map.mp my
    exact ⟨z, mz, e2, e3⟩
  · rintro ⟨h1, h2, h3, h4, h5, h6⟩
    refine ⟨by rw [names_clr]; exact h1, fun b e => ?_, by rw [e1]; exact h3, by rw [e1]; exact h4, by rw [e1]; exact h5, by rw [e1]; exact h6⟩
    obtain ⟨y, my, e2, e3⟩ := h2 b e
    exact ⟨clr y, List.mem_map_of_mem my, e2, e3⟩
/-- the rows that were drawn, one by one -/
structure Drawns (kn : List Str) (xs : List KD) : Prop where
  n : xs.map (·.n) = kn
  nd : kn.Nodup
  ik : ∀ k ∈ kn, IsK k
  k1 : 1 ≤ kn.length
  k12 : kn.length ≤ 12
  new : ∀ (i : Nat) x, xs[i]? = some x → NewR kn (xs.take i) x
namespace Drawns
variable {kn : List Str} {xs : List KD}
theorem len (h : Drawns kn xs) : xs.length = kn.length := by rw [← h.n, List.length_map]
theorem at_ (h : Drawns kn xs) {x : KD} (mx : x ∈ xs) : ∃ i : Nat, xs[i]? = some x ∧ NewR kn (xs.take i) x := by
  obtain ⟨i, hi⟩ := List.getElem?_of_mem mx
  exact ⟨i, hi, h.new i x hi⟩
theorem ndx (h : Drawns kn xs) : (xs.map (·.n)).Nodup := by rw [h.n]; exact h.nd
theorem early (h : Drawns kn xs) {i : Nat} {x y : KD} (e : xs[i]? = some x) (m : y ∈ xs.take i) : y.n ≠ x.n := by
  intro z
  obtain ⟨j, hj⟩ := List.getElem?_of_mem m
  have lj : j < i := by
    have := (List.getElem?_eq_some_iff.mp hj).1
    rw [List.length_take] at this
    omega
  rw [List.getElem?_take_of_lt lj] at hj
  have h1 : (xs.map (·.n))[j]? = some y.n := by rw [List.getElem?_map, hj]; rfl
  have h2 : (xs.map (·.n))[i]? = some x.n := by rw [List.getElem?_map, e]; rfl
  rw [z] at h1
  have := (List.getElem?_inj (List.getElem?_eq_some_iff.mp h1).1 h.ndx).mp (h1.trans h2.symm)
  omega
theorem hb (h : Drawns kn xs) {x : KD} (mx : x ∈ xs) (hx : x.h = true) : x.b = none := by
  obtain ⟨i, _, nw⟩ := h.at_ mx
  cases e : x.b with
  | none => rfl
  | some z =>
    have := (nw.fh (by rw [e]; simp)).2
    rw [hx] at this
    cases this
/-- all fields, seen from its place and from the whole -/
theorem allF_take (h : Drawns kn xs) {i : Nat} {x : KD} (e : xs[i]? = some x) : allF (xs.take i) x = allF xs x := by
  unfold allF
  cases eb : x.b with
  | none => rfl
  | some b =>
    obtain ⟨y, my, ey, _⟩ := (h.new i x e).b b eb
    show baseFs (xs.take i) b ++ _ = baseFs xs b ++ _
    rw [HouseOk.find_take ⟨xs.drop i, (List.take_append_drop i xs).symm⟩ ⟨y, my, ey⟩]
theorem base_fs (h : Drawns kn xs) {i : Nat} {x : KD} (e : xs[i]? = some x) : allF xs x = x.fs ∨ ∃ y ∈ xs.take i, allF xs x = y.fs ++ x.fs := by
  cases eb : x.b with
  | none => exact .inl (by unfold allF; rw [eb])
  | some b =>
    obtain ⟨y, my, ey, _⟩ := (h.new i x e).b b eb
    refine .inr ⟨y, my, ?_⟩
    have h2 : (xs.find? fun e => decide (e.n = b)) = some y := ey ▸ atName_of h.ndx (List.mem_of_mem_take my)
    simp only [allF, baseFs, eb, h2]
    rfl
theorem fld (h : Drawns kn xs) {x : KD} (mx : x ∈ xs) {g : FV} (mg : g ∈ allF xs x) : FldOk g ∧ ∀ t, g.t = some t → t = "any" ∨ t ∈ kn := by
  obtain ⟨i, e, nw⟩ := h.at_ mx
  rcases h.base_fs e with e2 | ⟨y, my, e2⟩
  · rw [e2] at mg
    exact ⟨nw.fs g mg, nw.t g mg⟩
  · rw [e2] at mg
    rcases List.mem_append.mp mg with mg | mg
    · obtain ⟨j, _, nw2⟩ := h.at_ (List.mem_of_mem_take my)
      exact ⟨nw2.fs g mg, nw2.t g mg⟩
    · exact ⟨nw.fs g mg, nw.t g mg⟩
theorem few (h : Drawns kn xs) {x : KD} (mx : x ∈ xs) : (allF xs x).length ≤ 8 := by
  obtain ⟨i, e, nw⟩ := h.at_ mx
  have := nw.f4
  rcases h.base_fs e with e2 | ⟨y, my, e2⟩
  · rw [e2]; omega
  · rw [e2, List.length_append]
    obtain ⟨j, _, nw2⟩ := h.at_ (List.mem_of_mem_take my)
    have := nw2.f4
    omega
theorem alone (h : Drawns kn xs) {i : Nat} {x : KD} (e : xs[i]? = some x) : Alone (xs.take i) kn x := by
  have nw := h.new i x e
  have mx := List.mem_of_getElem? e
  have ea := h.allF_take e
  refine ⟨fun m => ?_, nw.b, by rw [ea]; have := h.few mx; omega, nw.nd, fun g mg sg => ?_, fun z ez => ?_⟩
  · obtain ⟨y, my, ey⟩ := List.mem_map.mp m
    exact h.early e my ey
  · rw [ea] at mg
    obtain ⟨o, t⟩ := h.fld mx mg
    rcases o.m with ⟨m, _⟩ | ⟨_, _, tg, et, _⟩
    · unfold slotB at sg
      rw [m] at sg
      simp at sg
    · exact ⟨tg, et, t tg et⟩
  · obtain ⟨k1, k2⟩ := nw.k z ez
    refine ⟨fun g mg => ?_, k2⟩
    unfold slotB
    rw [k1 g mg]
    simp
theorem rowV (h : Drawns kn xs) {x : KD} (mx : x ∈ xs) : RowV x := by
  obtain ⟨i, e, nw⟩ := h.at_ mx
  have mk : x.n ∈ kn := by rw [← h.n]; exact List.mem_map_of_mem mx
  refine ⟨h.ik _ mk, fun z ez => ?_, nw.fh, nw.hh, nw.r, fun z ez => ?_, nw.fs, ?_, by have := nw.f4; omega⟩
  · obtain ⟨y, my, ey, _⟩ := nw.b z ez
    refine ⟨?_, ey ▸ h.early e my⟩
    rw [← ey]
    exact h.ik _ (by rw [← h.n]; exact List.mem_map_of_mem (List.mem_of_mem_take my))
  · obtain ⟨_, k2⟩ := nw.k z ez
    rw [h.allF_take e] at k2
    obtain ⟨g, mg, eg⟩ := List.mem_map.mp k2
    exact eg ▸ (h.fld mx mg).1.n
  · have := nw.nd
    rw [h.allF_take e] at this
    rcases h.base_fs e with e2 | ⟨y, _, e2⟩
    · rw [e2] at this; exact this
    · rw [e2, List.map_append] at this
      exact (List.nodup_append.mp this).2.1
theorem rowsOk (h : Drawns kn xs) : RowsOk xs := by
  refine ⟨h.ndx, fun x mx b eb => ?_, fun x mx g mg sg => ?_, fun x mx => by have := h.few mx; omega, by rw [h.len]; exact h.k12⟩
  · obtain ⟨i, e, nw⟩ := h.at_ mx
    obtain ⟨y, my, ey, hy⟩ := nw.b b eb
    have my := List.mem_of_mem_take my
    exact ⟨y, ey ▸ atName_of h.ndx my, h.hb my hy⟩
  · obtain ⟨i, e, nw⟩ := h.at_ mx
    rw [← h.allF_take e] at mg
    obtain ⟨t, et, _⟩ := (h.alone e).aim g mg sg
    exact ⟨t, et⟩
end Drawns
/-- rows that differ in what is frozen alone are right alike -/
theorem RowsOk.clr {ks ls : List KD} (h : RowsOk ks) (e : ls.map Wh.clr = ks.map Wh.clr) : RowsOk ls := by
  have en : ls.map (·.n) = ks.map (·.n) := by rw [← names_clr ls, e, names_clr]
  have back : ∀ {x}, x ∈ ls → ∃ y ∈ ks, Wh.clr y = Wh.clr x := fun {x} mx => by
    have : Wh.clr x ∈ ks.map Wh.clr := by rw [← e]; exact List.mem_map_of_mem mx
    obtain ⟨y, my, ey⟩ := List.mem_map.mp this
    exact ⟨y, my, ey⟩
  have ea : ∀ {x y}, Wh.clr y = Wh.clr x → allF ls x = allF ks y := fun {x y} exy => by
    rw [← allF_clr ls x, e, ← exy, allF_clr]
  refine ⟨by rw [en]; exact h.nd, fun x mx b eb => ?_, fun x mx g mg sg => ?_, fun x mx => ?_, ?_⟩
  · obtain ⟨y, my, ey⟩ := back mx
    have eb2 : y.b = some b := by
      have := congrArg KD.b ey
      exact this.trans eb
    obtain ⟨z, hz, hb⟩ := h.base y my b eb2
    have q := atName_clr ls b
    rw [e, atName_clr, hz] at q
    obtain ⟨z2, hz2, ez2⟩ := Option.map_eq_some_iff.mp q.symm
    exact ⟨z2, hz2, by have := congrArg KD.b ez2; exact this.trans hb⟩
  · obtain ⟨y, my, ey⟩ := back mx
    rw [ea ey] at mg
    exact h.aim y my g mg sg
  · obtain ⟨y, my, ey⟩ := back mx
    rw [ea ey]
    exact h.few y my
  · have := congrArg List.length e
    rw [List.length_map, List.length_map] at this
    rw [this]
    exact h.n12
end Wh
set_option Elab.async false
set_option linter.all false
set_option maxRecDepth 100000
set_option maxHeartbeats 4000000
namespace Wh
open PySem PySem.Spec PyProof.Rows L2
open Wp hiding Same.refl Same.trans same_new boot_all
open W8 (Ev Rp Kp Mono same_new take_snoc rW rB mW mB ev_words ev_words_eq ev_bools_eq lc_sieve)
/-! ## the rows of a house are drawn -/
/-- rows, each a dict of its own -/
structure RowsAt (K : PySem.W.Frag) (H : Hp) (l : Addr) (ds : List Addr) (rs : List KD) : Prop where
  ls : Rd H l (.lst (ds.map V.ref))
  nd : ds.Nodup
  n : ds.length = rs.length
  d : ∀ (i : Nat) d x, ds[i]? = some d → rs[i]? = some x → ∃ lo us, H d = some (.dK (rowD x lo)) ∧ Rd H lo (.lst us) ∧ Ev (rLF K) H us x.fs ∧ lo ≠ l
section
variable {K : PySem.W.Frag} {p c : Addr} {ns : List Int} {H H' : Hp}
theorem RowsAt.rows {l : Addr} {ds : List Addr} {rs : List KD} (h : RowsAt K H l ds rs) : RowsL K H l rs := by
  refine ⟨ds.map V.ref, .inl h.ls, by rw [List.length_map]; exact h.n, fun i v x a b => ?_⟩
  rw [List.getElem?_map] at a
  obtain ⟨d, hd, rfl⟩ := Option.map_eq_some_iff.mp a
  obtain ⟨lo, us, h1, h2, h3, _⟩ := h.d i d x hd b
  exact ⟨d, lo, us, rfl, h1, .inl h2, h3⟩
theorem RowsAt.same {l : Addr} {ds : List Addr} {rs : List KD} (h : RowsAt K H l ds rs) (s : Same H H') : RowsAt K H' l ds rs := by
  refine ⟨rd_same s h.ls, h.nd, h.n, fun i d x a b => ?_⟩
  obtain ⟨lo, us, h1, h2, h3, h4⟩ := h.d i d x a b
  exact ⟨lo, us, s _ _ h1, rd_same s h2, h3.same (mLF K) s, h4⟩
theorem RowsAt.go {l : Addr} {ds : List Addr} {rs : List KD} (h : RowsAt K H l ds rs) (pn : Pn p c ns H) (g : Go p c ns H H') : RowsAt K H' l ds rs := by
  refine ⟨rd_go pn g h.ls, h.nd, h.n, fun i d x a b => ?_⟩
  obtain ⟨lo, us, h1, h2, h3, h4⟩ := h.d i d x a b
  exact ⟨lo, us, g.but _ _ (Go.ne pn h1 (by intro x z; simp [rowD, penD] at z)) h1, rd_go pn g h2, ev_go h3 pn g, h4⟩
/-- one row is written over: its own fields stand at lo -/
theorem RowsAt.put {l : Addr} {ds : List Addr} {rs : List KD} (h : RowsAt K H l ds rs) {i : Nat} {d : Addr} {x y : KD} {lo : Addr} {us : List V} (hd : ds[i]? = some d) (hx : rs[i]? = some x) (hl : Rd H lo (.lst us)) (e : Ev (rLF K) H us y.fs) (nl : lo ≠ l) :
    RowsAt K (upd H d (.dK (rowD y lo))) l ds (rs.set i y) := by
  obtain ⟨lo0, us0, h1, _, _, _⟩ := h.d i d x hd hx
  have ne : ∀ {b : Addr} {xs : List V}, Rd H b (.lst xs) → b ≠ d := fun {b xs} r z => by
    rw [z] at r
    rcases r with r | ⟨o, r⟩ <;> rw [h1] at r <;> cases r
  have rd : ∀ {b : Addr} {xs : List V}, Rd H b (.lst xs) → Rd (upd H d (.dK (rowD y lo))) b (.lst xs) := fun {b xs} r => by
    have n := ne r
    rcases r with r | ⟨o, r⟩
    · exact .inl (by rw [upd_ne n]; exact r)
    · exact .inr ⟨o, by rw [upd_ne n]; exact r⟩
  have stay : Stay H (upd H d (.dK (rowD y lo))) := .kd (Kd.dct h1)
  refine ⟨rd h.ls, h.nd, by rw [List.length_set]; exact h.n, fun j d2 x2 a b => ?_⟩
  by_cases ij : i = j
  · subst ij
    rw [hd] at a
    cases a
    have li : i < rs.length := (List.getElem?_eq_some_iff.mp hx).1
    rw [List.getElem?_set_self li] at b
    cases b
    exact ⟨lo, us, upd_same, rd hl, ⟨e.1, fun i x c a b => rLF_stay stay (e.2 i x c a b)⟩, nl⟩
  · rw [List.getElem?_set_ne ij] at b
    obtain ⟨lo2, us2, q1, q2, q3, q4⟩ := h.d j d2 x2 a b
    have nd : d2 ≠ d := fun z => by
      rw [z] at a
      exact ij ((List.getElem?_inj (List.getElem?_eq_some_iff.mp hd).1 h.nd).mp (hd.trans a.symm))
    exact ⟨lo2, us2, by rw [upd_ne nd]; exact q1, rd q2, ⟨q3.1, fun i x c a b => rLF_stay stay (q3.2 i x c a b)⟩, q4⟩
end
/-- the rows of a right house -/
structure HouseR (kn : List Str) (rs : List KD) : Prop where
  n : rs.map (·.n) = kn
  k1 : 1 ≤ kn.length
  k6 : kn.length ≤ 12
  ik : ∀ k ∈ kn, IsK k
  v : ∀ x ∈ rs, RowV x
  ok : ∀ root, (∃ x ∈ rs, x.n = root ∧ x.k = none) → HouseOk root rs
  free : ∃ x ∈ rs, x.k = none
theorem Drawns.drw {kn : List Str} {xs : List KD} {j : Nat} (n : xs.map (·.n) = kn.take j) (len : xs.length = j) (new : ∀ (i : Nat) x, xs[i]? = some x → NewR kn (xs.take i) x) : Drw kn xs := by
  have at_ : ∀ {x}, x ∈ xs → ∃ i : Nat, NewR kn (xs.take i) x := fun {x} mx => by
    obtain ⟨i, hi⟩ := List.getElem?_of_mem mx
    exact ⟨i, new i x hi⟩
  refine ⟨by rw [len]; exact n, fun x mx hx => ?_, fun x mx => (at_ mx).elim fun i nw => nw.f4, fun x mx => ?_⟩
  · obtain ⟨i, nw⟩ := at_ mx
    cases e : x.b with
    | none => rfl
    | some z =>
      have := (nw.fh (by rw [e]; simp)).2
      rw [hx] at this
      cases this
  · obtain ⟨i, nw⟩ := at_ mx
    have nd := nw.nd
    unfold allF at nd
    cases e : x.b with
    | none => rw [e] at nd; exact nd
    | some z =>
      rw [e] at nd
      rw [List.map_append] at nd
      exact (List.nodup_append.mp nd).2.1
/-- some of the rows are no more frozen -/
structure Thaw (xs rs : List KD) : Prop where
  n : rs.length = xs.length
  at_ : ∀ (i : Nat) x y, xs[i]? = some x → rs[i]? = some y → y = x ∨ y = clr x
theorem clr_clr (x : KD) : clr (clr x) = clr x := rfl
theorem Thaw.clr {xs rs : List KD} (h : Thaw xs rs) : rs.map Wh.clr = xs.map Wh.clr := by
  refine List.ext_getElem? fun i => ?_
  rw [List.getElem?_map, List.getElem?_map]
  cases e : xs[i]? with
  | none =>
    have := List.getElem?_eq_none_iff.mp e
    rw [List.getElem?_eq_none (by rw [h.n]; exact this)]
  | some x =>
    have li : i < rs.length := by rw [h.n]; exact (List.getElem?_eq_some_iff.mp e).1
    rw [List.getElem?_eq_getElem li]
    rcases h.at_ i x _ e (List.getElem?_eq_getElem li) with q | q
    · rw [q]
    · rw [q]; rfl
theorem Thaw.put {xs rs : List KD} (h : Thaw xs rs) {i : Nat} {x : KD} (hx : rs[i]? = some x) : Thaw xs (rs.set i (Wh.clr x)) := by
  refine ⟨by rw [List.length_set]; exact h.n, fun j a b ha hb => ?_⟩
  by_cases ij : i = j
  · subst ij
    rw [List.getElem?_set_self (List.getElem?_eq_some_iff.mp hx).1] at hb
    cases hb
    rcases h.at_ i a x ha hx with q | q
    · exact .inr (by rw [q])
    · exact .inr (by rw [q]; rfl)
  · rw [List.getElem?_set_ne ij] at hb
    exact h.at_ j a b ha hb
theorem Thaw.mem {xs rs : List KD} (h : Thaw xs rs) {y : KD} (my : y ∈ rs) : ∃ x ∈ xs, y = x ∨ y = Wh.clr x := by
  obtain ⟨i, hi⟩ := List.getElem?_of_mem my
  have li : i < xs.length := by rw [← h.n]; exact (List.getElem?_eq_some_iff.mp hi).1
  exact ⟨xs[i], List.getElem_mem li, h.at_ i _ y (List.getElem?_eq_getElem li) hi⟩
theorem RowV.clr {x : KD} (h : RowV x) : RowV (Wh.clr x) := ⟨h.n, h.b, fun e => ⟨rfl, (h.fh e).2⟩, fun e => ⟨rfl, (h.hh e).2⟩, h.r, h.k, h.fs, h.nd, h.f10⟩
theorem HouseR.of {kn : List Str} {xs rs : List KD} (d : Drawns kn xs) (t : Thaw xs rs) (fz : ∀ (i : Nat) x, rs[i]? = some x → x.f = true → x.n ∉ farK xs x.n ∧ ∀ m ∈ farK xs x.n, heirB xs m = false) : HouseR kn rs := by
  have ec := t.clr
  have en : rs.map (·.n) = kn := by rw [← names_clr rs, ec, names_clr, d.n]
  have lr : rs.length = kn.length := by rw [← en, List.length_map]
  have k1 := d.k1
  have k12 := d.k12
  refine ⟨en, k1, k12, d.ik, fun x mx => ?_, fun root hr => ⟨by omega, by omega, fun i y hy => ?_, fun y my fy => ?_, hr⟩, ?_⟩
  · obtain ⟨y, my, e⟩ := t.mem mx
    rcases e with rfl | rfl
    · exact d.rowV my
    · exact (d.rowV my).clr
  · have li : i < xs.length := by rw [← t.n]; exact (List.getElem?_eq_some_iff.mp hy).1
    have hx := List.getElem?_eq_getElem li
    generalize xs[i] = x at hx
    have a := alone_clr.mpr (d.alone hx)
    have e1 : (rs.take i).map Wh.clr = (xs.take i).map Wh.clr := by rw [List.map_take, List.map_take, ec]
    have e2 : Wh.clr y = Wh.clr x := by
      rcases t.at_ i x y hx hy with q | q
      · rw [q]
      · rw [q]; rfl
    rw [en]
    exact alone_clr.mp (by rw [e1, e2]; exact a)
  · obtain ⟨i, hi⟩ := List.getElem?_of_mem my
    obtain ⟨f1, f2⟩ := fz i y hi fy
    have e1 : farK rs y.n = farK xs y.n := by rw [← farK_clr rs, ec, farK_clr]
    rw [e1]
    exact ⟨f1, fun m hm => by rw [← heirB_clr, ec, heirB_clr]; exact f2 m hm⟩
  · have l0 : 0 < xs.length := by rw [d.len]; omega
    have nw := d.new 0 _ (List.getElem?_eq_getElem l0)
    have k0 := nw.k0 rfl
    have lr0 : 0 < rs.length := by omega
    refine ⟨rs[0], List.getElem_mem lr0, ?_⟩
    rcases t.at_ 0 _ _ (List.getElem?_eq_getElem l0) (List.getElem?_eq_getElem lr0) with q | q
    · rw [q]; exact k0
    · rw [q]; exact k0
theorem heirs_out {ks : List KD} {F : List Str} (h : ∀ y ∈ ks, y.h = true → y.n ∉ F) : ∀ m ∈ F, heirB ks m = false := by
  intro m hm
  unfold heirB
  cases e : ks.find? fun e => decide (e.n = m) with
  | none => rfl
  | some y =>
    obtain ⟨my, ey⟩ := atName_mem (show atName ks m = some y from e)
    show y.h = false
    cases hy : y.h with
    | false => rfl
    | true => exact absurd (ey ▸ hm) (h y my hy)
section
variable {P : Program} {w : World} {K : PySem.W.Frag} {mg : Str → Option Value} {base : Heap}
abbrev sHr : Stmt := top 50
abbrev nHr : List Str := ["_law_pen_here", "_law_most", "_law_names", "_law_pool", "_law_rows", "_law_name", "_law_row_here", "_law_far", "_law_one"]
def spHr (K : PySem.W.Frag) : Sp := fun vs H Q _ => ∃ (p c : Addr) (ns : List Int) (b : Int), vs = [.ref p, .int b] ∧ Pn p c ns H ∧ 1 ≤ b ∧ b ≤ 12 ∧
  ∀ (l : Addr) (ds : List Addr) (kn : List Str) (rs : List KD) H', Go p c ns H H' → RowsAt K H' l ds rs → (∀ d ∈ ds, H d = none) → HouseR kn rs → Q (.ref l) H'
theorem scHr : FnScope nHr ["_law_pen_here", "_law_most"] (defScope sHr) := ⟨rfl, rfl, rfl, by decide +kernel, rfl, by decide +kernel, by decide +kernel⟩
theorem ok_Hr {f f1 f2 f3 f4 f5 : Addr} {fd fd1 fd2 fd3 fd4 fd5 : FuncData} (F : Fun K "_law_house_rows" "_law_house_rows" sHr f fd) (B : Bn mg) (TK : Known P w K mg base CX0 1 "_law_take" ["_law_pen_here", "_law_bound"] spTake f1 fd1) (KN : Known P w K mg base CX0 4 "_law_kind_names" ["_law_pen_here", "_law_count"] spKns f2 fd2)
    (WD : Known P w K mg base CX0 3 "_law_words" ["_law_pen_here", "_law_count", "_law_most"] (spWds K) f3 fd3) (NR_ : Known P w K mg base CX0 5 "_law_new_row" ["_law_pen_here", "_law_rows", "_law_names", "_law_pool"] (spNr K) f4 fd4) (FR_ : Known P w K mg base CX0 5 "_law_leads_far" ["_law_rows", "_law_name"] (spFr K) f5 fd5) : FnOk P w K mg base CX0 6 f fd ["_law_pen_here", "_law_most"] (spHr K) := by
  refine F.ok scHr (fun vs H Q E h => ?_) (fun cdv A outer s H vs Q E hr h => ?_)
  · obtain ⟨p, c, ns, b, rfl, _⟩ := h
    rfl
  · obtain ⟨p, c, ns, b, rfl, pn, b1, b12, k⟩ := h
    have hu := hu_of hr
    refine ⟨_, 
      (pss_cons (ps_set (i := 2) scHr.nd rfl (.inl rfl) (pe_call KN.ok (hr.mono (by decide)) rfl KN.mg KN.kp KN.bi .nil pass0 (pa_cons (pv 0) (pa_cons (pe_op op_add pe_int (pe_call TK.ok (hr.mono (by decide)) rfl TK.mg TK.kp TK.bi .nil pass0 (pa_cons (pv 0) (pa_cons (pv 1) pa_nil)))) pa_nil))))
      (pss_cons (ps_set (i := 3) scHr.nd rfl (.inl rfl) (pe_call WD.ok (hr.mono (by decide)) rfl WD.mg WD.kp WD.bi .nil pass0 (pa_cons (pv 0) (pa_cons pe_int (pa_cons pe_int pa_nil)))))
      (pss_cons (ps_set (i := 4) scHr.nd rfl (.inl rfl) (pe_lst pa_nil))
      (pss_cut (ps_for PassesOwn.never rfl (pi_list (pv 2)) (pg_name (i := 5) scHr.nd rfl (Or.inl rfl)) 
        (pss_one (ps_expr (pe_bm PySem.F.plainAttrs_list PySem.F.slot_list_append PySem.F.type_list_append mt_append (pv 4) (pa_cons (pe_call NR_.ok (hr.mono (by decide)) rfl NR_.mg NR_.kp NR_.bi .nil pass0 (pa_cons (pv 0) (pa_cons (pv 4) (pa_cons (pv 2) (pa_cons (pv 3) pa_nil))))) pa_nil)))))
      (pss_cut (ps_for PassesOwn.never rfl (pi_list (pv 4)) (pg_name (i := 6) scHr.nd rfl (Or.inl rfl)) 
        (pss_cons (ps_set (i := 7) scHr.nd rfl (.inr rfl) (pe_call FR_.ok (hr.mono (by decide)) rfl FR_.mg FR_.kp FR_.bi .nil pass0 (pa_cons (pv 4) (pa_cons (pe_dget hu (pv 6) pe_str (fun _ _ => rfl)) pa_nil))))
        (pss_one (ps_if (PW.pt (pw_or (pt_cmpR op_in_seq (pe_dget hu (pv 6) pe_str (fun _ _ => rfl)) (pv 7) (by rfl)) (pw_or1 (pt_cmpR op_gt (pe_callB call_len_seq (by rfl) B.len PySem.boot_len (pa_cons (pe_lc (own := [("_law_one", 8)]) (g := gName 8) (te := (tVar 8)) (tt := (tAnd (tB (tDGet (tVar 8) (tC (.str "heirs")))) (tTest (tOp (rIn K false) (tDGet (tVar 8) (tC (.str "name"))) (tVar 7))))) rfl scHr.nd (pi_list (pv 4)) (blkOk_by (N := nHr) (sc := defScope sHr) (by decide +kernel)) (fun _ _ _ _ _ => pg_name (i := 8) scHr.nd rfl (Or.inl rfl)) (fun _ _ _ _ _ => pts_one (PW.pt (pw_and (pt_val (pe_dget hu (pv 8) pe_str (fun _ _ => rfl))) (pw_and1 (pt_cmpR (show OpR _ (compareOp .In) (rIn K false) from op_in_seq) (pe_dget hu (pv 8) pe_str (fun _ _ => rfl)) (pv 7) (by rfl)))))) (fun _ _ _ _ _ => (pv 8))) pa_nil)) pe_int (nomark _))))) 
          (pss_one (ps_dput hu (pv 6) pe_str pe_bl rfl)) pss_nil))))
      (pss_one (ps_ret (pv 4)))))))), ?_⟩
    refine ⟨_, rfl, _, rfl, _, rfl, ?_⟩
    dsimp (config := { proj := false }) only [tCons, tC, tNil, List.append_nil]
    refine take_go (b := b) pn (by omega) (by omega) fun v H1 v0 v1 g1 => ?_
    obtain ⟨j, rfl⟩ := Int.eq_ofNat_of_zero_le v0
    refine ⟨_, _, rfl, rfl, p, c, ns, 1 + j, by show [V.ref p, V.int (1 + (j : Int))] = _; rw [show ((1 : Int) + (j : Int)) = ((1 + j : Nat) : Int) by omega], g1.pn, by omega, fun nl kn H2 lk ik ndk g2 hnl => ?_⟩
    have g12 := g1.trans g2
    refine ⟨_, rfl, p, c, ns, 14, rfl, g12.pn, by decide, fun q ws H3 lw iw dif g3 hq => ?_⟩
    have g13 := g12.trans g3
    have pn3 := g13.pn
    have hnl3 := g3.but _ _ (Go.ne g12.pn hnl (by intro x z; cases z)) hnl
    have knd := ndk (by omega)
    have wnd : ws.Nodup := by
      obtain ⟨pl, d⟩ := dif (by decide)
      exact d.imp fun {x y} ⟨a, b, h1, h2, _, _, ne⟩ e => ne (by rw [e, h2] at h1; exact (Option.some.inj h1).symm)
    have po : Pool K H3 q ws := ⟨SqL.of hq, iw, wnd, by omega, by omega⟩
    refine ⟨by show 0 ≤ sizeLine; decide, fun l hl0 => ?_⟩
    have sl : Same H3 (upd H3 l (.lst [])) := same_new hl0
    refine ⟨fun σ H' => ∃ (v5 : Option V) (ds : List Addr) (xs : List KD), σ = [some (.ref p), some (.int b), some (.ref nl), some (.ref q), some (.ref l), v5, none, none, none] ∧ Go p c ns H3 H' ∧ RowsAt K H' l ds xs ∧ (∀ d ∈ ds, H3 d = none) ∧ Drawns kn xs, ?_, ?_⟩
    · refine ⟨_, rfl, nl, rfl, ⟨_, SqL.of (sl _ _ hnl3)⟩, ?_⟩
      refine for_it (walk_list (xs := kn.map V.str)) (fun j σ H' => ∃ (v5 : Option V) (ds : List Addr) (xs : List KD), σ = [some (.ref p), some (.int b), some (.ref nl), some (.ref q), some (.ref l), v5, none, none, none] ∧ Go p c ns H3 H' ∧ H' l = some (.lst (ds.map V.ref)) ∧ RowsAt K H' l ds xs ∧ (∀ d ∈ ds, H3 d = none) ∧ xs.map (·.n) = kn.take j ∧ xs.length = j ∧ (∀ (i : Nat) x, xs[i]? = some x → NewR kn (xs.take i) x))
        ⟨none, [], [], rfl, Go.of pn3 sl, upd_same, ⟨.inl upd_same, List.nodup_nil, rfl, fun i d x h => (by simp at h)⟩, (fun d h => (by cases h)), rfl, rfl, (fun i x h => (by simp at h))⟩ (fun i σ H' _ ⟨_, _, _, _, g, _⟩ => SqL.of (g.but _ _ (Go.ne pn3 hnl3 (by intro x z; cases z)) hnl3)) ?_ ?_
      · rintro i u σ _ H4 hi ⟨v5, ds, xs, rfl, g4, hl4, R4, new4, en, lx, nw⟩ ⟨rfl, hu0⟩
        rw [List.length_map] at hi
        have pn4 := g4.pn
        have hnl4 := g4.but _ _ (Go.ne pn3 hnl3 (by intro x z; cases z)) hnl3
        have hq4 := g4.but _ _ (Go.ne pn3 hq (by intro x z; cases z)) hq
        have dw := Drawns.drw en lx nw
        refine ⟨_, rfl, .inl ⟨rfl, _, SqL.of hl4⟩, _, rfl, _, rfl, _, rfl, _, rfl, p, c, l, nl, q, ns, kn, ws, xs, rfl, pn4, R4.rows, .inl hnl4, po.go pn3 g4, .inl hq4, by omega, by omega, ik, knd, by omega, dw, fun d lo us x H5 g5 nd hd nlo hlo ex nx => ?_⟩
        have hl5 := g5.but _ _ (Go.ne pn4 hl4 (by intro x z; cases z)) hl4
        refine ⟨l, ds.map V.ref, .ref d, rfl, rfl, hl5, by rw [List.length_map, R4.n, lx, sizeLine_eq]; omega, ?_⟩
        have R5 := R4.go pn4 g5
        have nl5 : ∀ {b : Addr} {o : HO}, (∀ xs, o ≠ .lst xs) → H5 b = some o → b ≠ l := fun {b o} n e z => by
          rw [z, hl5] at e
          exact n _ (Option.some.inj e).symm
        have stay : Stay H5 (upd H5 l (.lst (ds.map V.ref ++ [.ref d]))) := .kp (Kp.lst hl5)
        have lol : lo ≠ l := fun z => by
          rw [z, hl4] at nlo
          cases nlo
        have h3d : H3 d = none := go_none g4 nd
        refine ⟨_, ds ++ [d], xs ++ [x], rfl, Go.over pn3 (g4.trans g5) hl0, by rw [upd_same, List.map_append]; rfl, ⟨.inl (by rw [upd_same, List.map_append]; rfl), ?_, by rw [List.length_append, List.length_append, R4.n]; rfl, fun i2 d2 x2 a b => ?_⟩, fun d2 m2 => ?_, ?_, by simp [lx], fun i2 x2 h2 => ?_⟩
        · refine List.nodup_append.mpr ⟨R4.nd, List.nodup_cons.mpr ⟨by simp, List.nodup_nil⟩, fun a ma b mb e => ?_⟩
          rw [List.mem_singleton.mp mb] at e
          obtain ⟨i2, hi2⟩ := List.getElem?_of_mem ma
          have li2 : i2 < xs.length := by rw [← R4.n]; exact (List.getElem?_eq_some_iff.mp hi2).1
          obtain ⟨_, _, h1, _, _, _⟩ := R4.d i2 a _ hi2 (List.getElem?_eq_getElem li2)
          rw [e, nd] at h1
          cases h1
        · by_cases li2 : i2 < ds.length
          · rw [List.getElem?_append_left li2] at a
            rw [List.getElem?_append_left (by rw [← R4.n]; exact li2)] at b
            obtain ⟨lo3, us3, q1, q2, q3, nlo2⟩ := R5.d i2 d2 x2 a b
            exact ⟨lo3, us3, by rw [upd_ne (nl5 (fun _ z => by cases z) q1)]; exact q1, q2.imp (fun q2 => by rw [upd_ne nlo2]; exact q2) (fun ⟨o, q2⟩ => ⟨o, by rw [upd_ne nlo2]; exact q2⟩), ⟨q3.1, fun i x c a b => rLF_stay stay (q3.2 i x c a b)⟩, nlo2⟩
          · have e2 : i2 = ds.length := by
              have := (List.getElem?_eq_some_iff.mp a).1
              simp at this
              omega
            subst e2
            rw [List.getElem?_append_right (Nat.le_refl _), Nat.sub_self] at a
            rw [List.getElem?_append_right (by rw [R4.n]; exact Nat.le_refl _), R4.n, Nat.sub_self] at b
            cases a
            cases b
            exact ⟨lo, us, by rw [upd_ne (nl5 (fun _ z => by cases z) hd)]; exact hd, .inl (by rw [upd_ne lol]; exact hlo), ⟨ex.1, fun i x c a b => rLF_stay stay (ex.2 i x c a b)⟩, lol⟩
        · rcases List.mem_append.mp m2 with m2 | m2
          · exact new4 d2 m2
          · rw [List.mem_singleton.mp m2]; exact h3d
        · have hx : kn[i]? = some x.n := lx ▸ nx.n
          rw [List.map_append, en, take_snoc hx]
          rfl
        · by_cases li2 : i2 < xs.length
          · rw [List.getElem?_append_left li2] at h2
            rw [List.take_append_of_le_length (by omega)]
            exact nw i2 x2 h2
          · have e2 : i2 = xs.length := by
              have := (List.getElem?_eq_some_iff.mp h2).1
              simp at this
              omega
            subst e2
            rw [List.getElem?_append_right (Nat.le_refl _), Nat.sub_self] at h2
            cases h2
            rw [List.take_append_of_le_length (Nat.le_refl _), List.take_length]
            exact nx
      · rintro σ H4 ⟨v5, ds, xs, rfl, g4, _, R4, new4, en, lx, nw⟩
        rw [List.length_map, List.take_length] at en
        exact ⟨v5, ds, xs, rfl, g4, R4, new4, en, knd, ik, by omega, by omega, nw⟩
    rintro _ H4 ⟨v5, ds, xs, rfl, g4, R4, new4, dw⟩
    have pn4 := g4.pn
    have lds := R4.n
    have lxs := dw.len
    have k12 := dw.k12
    refine ⟨fun σ H' => ∃ (v6 v7 : Option V) (rs : List KD), σ = [some (.ref p), some (.int b), some (.ref nl), some (.ref q), some (.ref l), v5, v6, v7, none] ∧ Go p c ns H3 H' ∧ RowsAt K H' l ds rs ∧ Thaw xs rs ∧ (∀ (i : Nat) x, rs[i]? = some x → x.f = true → x.n ∉ farK xs x.n ∧ ∀ m ∈ farK xs x.n, heirB xs m = false), ?_, ?_⟩
    · refine ⟨_, rfl, l, rfl, ⟨_, .inl R4.ls⟩, ?_⟩
      refine for_it (walk_list (xs := ds.map V.ref)) (fun j σ H' => ∃ (v6 v7 : Option V) (rs : List KD), σ = [some (.ref p), some (.int b), some (.ref nl), some (.ref q), some (.ref l), v5, v6, v7, none] ∧ Go p c ns H3 H' ∧ RowsAt K H' l ds rs ∧ Thaw xs rs ∧ (∀ (i : Nat) x, i < j → rs[i]? = some x → x.f = true → x.n ∉ farK xs x.n ∧ ∀ m ∈ farK xs x.n, heirB xs m = false))
        ⟨none, none, xs, rfl, g4, R4, ⟨rfl, fun i x y a b => .inl (by rw [a] at b; exact (Option.some.inj b).symm)⟩, fun i x z => absurd z (Nat.not_lt_zero i)⟩ (fun i σ H' _ ⟨_, _, _, _, _, R, _⟩ => .inl R.ls) ?_ ?_
      · rintro i u σ _ H5 hi ⟨v6, v7, rs, rfl, g5, R5, th, fz⟩ ⟨rfl, hu0⟩
        rw [List.length_map] at hi
        rw [List.getElem?_map] at hu0
        obtain ⟨d, hd, rfl⟩ := Option.map_eq_some_iff.mp hu0
        have lri : i < rs.length := by rw [th.n]; omega
        obtain ⟨x, hx⟩ : ∃ x, rs[i]? = some x := ⟨rs[i], List.getElem?_eq_getElem lri⟩
        obtain ⟨lo, us, hdx, hlo, ex, nlo⟩ := R5.d i d x hd hx
        have rok : RowsOk rs := dw.rowsOk.clr th.clr
        have mx := List.mem_of_getElem? hx
        refine ⟨_, rfl, _, rfl, d, _, rfl, g_name hdx, l, rs, x, rfl, R5.rows, rok, mx, fun D H6 hD s6 => ?_⟩
        have eF : farK rs x.n = farK xs x.n := by rw [← farK_clr rs, th.clr, farK_clr]
        have hdx6 := s6 _ _ hdx
        have R6 := R5.same s6
        have g6 := g5.trans (Go.of g5.pn s6)
        -- thawed
        have thaw : ∀ {H7 : Hp}, Same H6 H7 → ∃ (v6 v7 : Option V) (rs' : List KD), [some (V.ref p), some (.int b), some (.ref nl), some (.ref q), some (.ref l), v5, some (.ref d), some (.ref D), none] = [some (.ref p), some (.int b), some (.ref nl), some (.ref q), some (.ref l), v5, v6, v7, none] ∧ Go p c ns H3 (upd H7 d (.dK (rowD (clr x) lo))) ∧ RowsAt K (upd H7 d (.dK (rowD (clr x) lo))) l ds rs' ∧ Thaw xs rs' ∧ (∀ (j : Nat) y, j < i + 1 → rs'[j]? = some y → y.f = true → y.n ∉ farK xs y.n ∧ ∀ m ∈ farK xs y.n, heirB xs m = false) := by
          intro H7 s7
          have R7 := R6.same s7
          obtain ⟨lo7, us7, q1, q2, q3, q4⟩ := R7.d i d x hd hx
          refine ⟨_, _, rs.set i (clr x), rfl, Go.over pn3 (g6.trans (Go.of g6.pn s7)) (new4 d (List.mem_of_getElem? hd)), R7.put hd hx (rd_same (s6.trans s7) hlo) (ex.same (mLF K) (s6.trans s7)) nlo, th.put hx, fun j y lj hy fy => ?_⟩
          by_cases ij : i = j
          · subst ij
            rw [List.getElem?_set_self (List.getElem?_eq_some_iff.mp hx).1] at hy
            cases hy
            cases fy
          · rw [List.getElem?_set_ne ij] at hy
            exact fz j y (by omega) hy fy
        refine ⟨_, rfl, d, _, rfl, g_name hdx6, _, rfl, D, _, rfl, .inl (SqL.of hD), rfl, flat_strs _, _, rfl, ?_⟩
        show if inV (.str x.n) ((farK rs x.n).map V.str) = true then _ else _
        rw [mem_in]
        by_cases e1 : x.n ∈ farK rs x.n
        · rw [decide_eq_true e1]
          refine iteT (iteT ⟨_, rfl, d, _, rfl, s_frozen hdx6, ?_⟩)
          exact thaw (Same.refl _)
        · rw [decide_eq_false e1]
          obtain ⟨rus, hl6, er6⟩ := R6.rows
          refine iteF ⟨_, rfl, l, rfl, ⟨rus, hl6⟩, fun D2 hD2 => ?_⟩
          refine lc_sieve (R := cR (rRow K) H6) (R2 := cR (rRow K) H6) mR mR (fun y => y.h && decide (y.n ∈ farK rs x.n)) id (cs := rs) walk_list (by rw [th.n]; omega) (fun H' s => s.seq hl6) hD2 (evB er6 _) ?_ ?_ ?_
          · rintro v y H7 Rq _ s7 r kk
            obtain ⟨d2, lo2, ws2, rfl, hd2, _⟩ := rRow_same s7 (show rRow K H6 v y from r)
            refine ⟨_, rfl, d2, _, rfl, g_heirs hd2, _, rfl, ?_⟩
            cases ey : y.h with
            | false =>
              rw [ey] at kk
              exact iteF (kk _ (Same.refl _))
            | true =>
              rw [ey] at kk
              refine iteT ⟨_, rfl, d2, _, rfl, g_name hd2, _, rfl, D, _, rfl, .inl (SqL.of (s7 _ _ hD)), rfl, flat_strs _, _, rfl, ?_⟩
              show Rq (inV (.str y.n) ((farK rs x.n).map V.str)) _
              rw [mem_in]
              exact kk _ (Same.refl _)
          · rintro v y H7 Rq _ _ s7 r kk
            exact ⟨_, rfl, kk _ _ (Same.refl _) r⟩
          intro H7 zs s7 hz ez
          rw [List.map_id] at ez
          refine ⟨D2, _, rfl, .inl (SqL.of hz), _, _, rfl, rfl, _, rfl, ?_⟩
          refine ite2 (fun _ => ?_) (fun n0 => ?_)
          · exact ⟨_, rfl, d, _, rfl, s_frozen (s7 _ _ hdx6), thaw s7⟩
          · have n0 : ¬ (0 < zs.length) := fun z => n0 (decide_eq_true (by omega))
            rw [ez.1] at n0
            have nil := List.eq_nil_of_length_eq_zero (by omega : (rs.filter fun y => y.h && decide (y.n ∈ farK rs x.n)).length = 0)
            refine ⟨_, _, rs, rfl, g6.trans (Go.of g6.pn s7), R6.same s7, th, fun j y lj hy fy => ?_⟩
            by_cases ij : j < i
            · exact fz j y ij hy fy
            · have : j = i := by omega
              subst this
              rw [hx] at hy
              cases hy
              rw [← eF]
              refine ⟨e1, fun m hm => ?_⟩
              rw [← heirB_clr, ← th.clr, heirB_clr]
              refine heirs_out (F := farK rs x.n) (fun y my hyh mf => ?_) m hm
              have : y ∈ rs.filter fun y => y.h && decide (y.n ∈ farK rs x.n) := List.mem_filter.mpr ⟨my, by rw [hyh, decide_eq_true mf]; rfl⟩
              rw [nil] at this
              cases this
      · rintro σ H5 ⟨v6, v7, rs, rfl, g5, R5, th, fz⟩
        rw [List.length_map] at fz
        exact ⟨v6, v7, rs, rfl, g5, R5, th, fun i x hx => fz i x (by have := (List.getElem?_eq_some_iff.mp hx).1; rw [th.n] at this; omega) hx⟩
    rintro _ H5 ⟨v6, v7, rs, rfl, g5, R5, th, fz⟩
    exact ⟨_, rfl, k l ds kn rs H5 (g13.trans g5) R5 (fun d m => go_none g13 (new4 d m)) (HouseR.of dw th fz)⟩
end
end Wh
set_option Elab.async false
set_option linter.all false
set_option maxRecDepth 100000
set_option maxHeartbeats 4000000
namespace Wh
open PySem PySem.Spec PyProof.Rows L2
open Wp hiding Same.refl Same.trans same_new boot_all
open W8 (Ev Rp Kp Mono same_new take_snoc rW rB mW mB ev_words ev_words_eq ev_bools_eq lc_sieve)
section
variable {P : Program} {w : World} {K : PySem.W.Frag} {mg : Str → Option Value} {base : Heap} {CF CK CH CB CB2 : Addr}
abbrev sRt : Stmt := top 51
abbrev nRt : List Str := ["_law_pen_here", "_law_rows", "_law_row_here"]
def spRt (K : PySem.W.Frag) : Sp := fun vs H Q _ => ∃ (p c l : Addr) (ns : List Int) (rs : List KD), vs = [.ref p, .ref l] ∧ Pn p c ns H ∧ RowsL K H l rs ∧ rs.length ≤ 20 ∧ (∃ x ∈ rs, x.k = none) ∧ ∀ root H', Go p c ns H H' → (∃ x ∈ rs, x.n = root ∧ x.k = none) → Q (.str root) H'
theorem scRt : FnScope nRt ["_law_pen_here", "_law_rows"] (defScope sRt) := ⟨rfl, rfl, rfl, by decide +kernel, rfl, by decide +kernel, by decide +kernel⟩
theorem ok_Rt {f f2 : Addr} {fd fd2 : FuncData} (F : Fun K "_law_root" "_law_root" sRt f fd) (OO : Known P w K mg base CX0 2 "_law_one_of" ["_law_pen_here", "_law_menu"] (spOne K) f2 fd2) : FnOk P w K mg base CX0 3 f fd ["_law_pen_here", "_law_rows"] (spRt K) := by
  refine F.ok scRt (fun vs H Q E h => ?_) (fun cdv A outer s H vs Q E hr h => ?_)
  · obtain ⟨p, c, l, ns, rs, rfl, _⟩ := h
    rfl
  · obtain ⟨p, c, l, ns, rs, rfl, pn, ⟨us, hl, ev⟩, n20, ⟨x0, m0, k0⟩, k⟩ := h
    have hu := hu_of hr
    refine ⟨_, 
      (pss_one (ps_ret (pe_call OO.ok (hr.mono (by decide)) rfl OO.mg OO.kp OO.bi .nil pass0 (pa_cons (pv 0) (pa_cons (pe_lc (own := [("_law_row_here", 2)]) (g := gName 2) (te := (tDGet (tVar 2) (tC (.str "name")))) (tt := (tB (L2.tIsN (tDGet (tVar 2) (tC (.str "key")))))) rfl scRt.nd (pi_list (pv 1)) (blkOk_by (N := nRt) (sc := defScope sRt) (by decide +kernel)) (fun _ _ _ _ _ => pg_name (i := 2) scRt.nd rfl (Or.inl rfl)) (fun _ _ _ _ _ => pts_one (pt_cmp (pc_isN (pe_dget hu (pv 2) pe_str (fun _ _ => rfl))))) (fun _ _ _ _ _ => (pe_dget hu (pv 2) pe_str (fun _ _ => rfl)))) pa_nil))))), ?_⟩
    refine ⟨_, rfl, _, rfl, l, rfl, ⟨us, hl⟩, fun D hD => ?_⟩
    refine lc_sieve (R := cR (rRow K) H) (R2 := rW) mR mW (fun e => decide (tv e.k = V.non)) (fun e => e.n) (cs := rs) walk_list (by omega) (fun H' s => s.seq hl) hD (evB ev _) ?_ ?_ ?_
    · rintro v e H2 Rq _ s2 r kk
      obtain ⟨d, lo, ws, rfl, hd, _⟩ := rRow_same s2 (show rRow K _ v e from r)
      exact ⟨_, rfl, d, _, rfl, g_key hd, _, rfl, kk _ (Same.refl _)⟩
    · rintro v e H2 Rq _ _ s2 r kk
      obtain ⟨d, lo, ws, rfl, hd, _⟩ := rRow_same s2 (show rRow K _ v e from r)
      exact ⟨_, rfl, d, _, rfl, g_name hd, kk _ _ (Same.refl _) rfl⟩
    intro H2 zs s2 hz ez
    have := ev_words_eq ez
    subst this
    dsimp (config := { proj := false }) only [tCons, tC, tNil, List.append_nil]
    have l1 : 0 < (rs.filter fun e => decide (tv e.k = V.non)).length := List.length_pos_of_mem (List.mem_filter.mpr ⟨m0, by rw [k0]; rfl⟩)
    have l2 := List.length_filter_le (fun e : KD => decide (tv e.k = V.non)) rs
    refine one_go (pn.same s2) (SqL.of hz) (by rw [List.length_map, List.length_map]; exact l1) (by rw [List.length_map, List.length_map]; omega) fun x H3 mx g4 => ?_
    obtain ⟨nm, mn, rfl⟩ := List.mem_map.mp mx
    obtain ⟨y, my, rfl⟩ := List.mem_map.mp mn
    obtain ⟨my, hy⟩ := List.mem_filter.mp my
    refine k y.n H3 ((Go.of pn s2).trans g4) ⟨y, my, rfl, ?_⟩
    have hy := of_decide_eq_true hy
    cases e : y.k with
    | none => rfl
    | some z => rw [e] at hy; cases hy
end
end Wh
set_option Elab.async false
set_option linter.all false
set_option maxRecDepth 100000
set_option maxHeartbeats 4000000
namespace Wh
open PySem PySem.Spec PyProof.Rows L2
open Wp hiding Same.refl Same.trans same_new boot_all
open W8 (Ev Rp Kp Mono same_new take_snoc rW rB mW mB ev_words ev_words_eq ev_bools_eq lc_sieve)
/-! ## fields and kinds are made of rows -/
def tvD : Option Str → PyData
  | none => .none
  | some t => .str t
abbrev psF : List Str := ["self", "name", "mode", "target", "default", "was"]
abbrev psK : List Str := ["self", "name", "fields", "base", "frozen", "heirs", "key", "registered"]
structure MkF (P : Program) (w : World) (K : PySem.W.Frag) (mg : Str → Option Value) (base : Heap) (CF CB fI : Addr) (fdI : FuncData) : Prop where
  ok : FnOk P w K mg base (L2.CX P w) 4 fI fdI psF (spFI K CF CB)
  made : Mk K CF fI
  gl : mg "Field" = some (.ref CF)
  kb : KBn K fdI psF 3 ["target", "default", "was"] (fun us ws => us ++ ws) (fun vs zs => vs ++ zs)
structure MkKd (P : Program) (w : World) (K : PySem.W.Frag) (mg : Str → Option Value) (base : Heap) (CF CK CB fI : Addr) (fdI : FuncData) : Prop where
  ok : FnOk P w K mg base (L2N.CX P w) 3 fI fdI psK (spKI K CF CK CB)
  made : Mk K CK fI
  gl : mg "Kind" = some (.ref CK)
  kb : KBn K fdI psK 3 ["base", "frozen", "heirs", "key", "registered"] (fun us ws => us ++ ws) (fun vs zs => vs ++ zs)
structure GoodF (g : FV) : Prop where
  right : fieldRight (.str g.n) (.str g.m) (tvD g.t) (.int g.d) (.tuple (g.w.map .str)) = true
  n : SeqAt.shaped (.str g.n) = true
  m : SeqAt.shaped (.str g.m) = true
  t : SeqAt.shaped (tvD g.t) = true
  w : SeqAt.shaped (.tuple (g.w.map .str)) = true
  sn : Shrt (.str g.n)
  st : Shrt (tvD g.t)
  sw : ShrtS (.tuple (g.w.map .str))
structure GoodK (x : KD) : Prop where
  fs : ∀ g ∈ x.fs, GoodF g
  right : kindRight (.str x.n) (some (x.fs.map .f)) (tvD x.b) (.bool x.f) (.bool x.h) (tvD x.k) (.bool x.r) = true
  n : SeqAt.shaped (.str x.n) = true
  b : SeqAt.shaped (tvD x.b) = true
  k : SeqAt.shaped (tvD x.k) = true
  sn : Shrt (.str x.n)
  sb : Shrt (tvD x.b)
  sk : Shrt (tvD x.k)
  few : x.fs.length ≤ 1000
theorem txts_map : ∀ w : List Str, txts (w.map PyData.str) = w
  | [] => rfl
  | x :: w => by
    show x :: txts (w.map PyData.str) = _
    rw [txts_map w]
theorem made_same {H1 : Hp} {a dx C : Addr} (ha : H1 a = none) (hd : H1 dx = none) : Same H1 (upd (upd H1 dx (.own a)) a (.ins C dx [])) := fun b o e => by
  rw [upd_ne (ne_of_none e ha), upd_ne (ne_of_none e hd)]
  exact e
theorem dq_tv {K : PySem.W.Frag} {H : Hp} {o : Option Str} (h : SeqAt.shaped (tvD o) = true) : Dq K H (tv o) (tvD o) := by
  cases o with
  | none => exact .dat .non rfl
  | some t => exact .dat (.str t) h
theorem paired_F {K : PySem.W.Frag} {CF : Addr} {H : Hp} : ∀ {us : List V} {gs : List FV}, Ev (rF K CF) H us gs → Paired (ItAt K CF H) us (gs.map .f)
  | [], [], _ => .nil
  | u :: us, g :: gs, e => .cons (e.2 0 u g rfl rfl) (paired_F ⟨by have := e.1; simp at this; exact this, fun i x c a b => e.2 (i + 1) x c (by simpa using a) (by simpa using b)⟩)
  | [], _ :: _, e => by cases e.1
  | _ :: _, [], e => by cases e.1
theorem small_low : ∀ c ∈ smallS.cps.toList, c < 0x110000 := by
  have : smallS.cps.toList.all (fun c => decide (c < 0x110000)) = true := by decide +kernel
  exact fun c hc => of_decide_eq_true (List.all_eq_true.mp this c hc)
theorem large_low : ∀ c ∈ largeS.cps.toList, c < 0x110000 := by
  have : largeS.cps.toList.all (fun c => decide (c < 0x110000)) = true := by decide +kernel
  exact fun c hc => of_decide_eq_true (List.all_eq_true.mp this c hc)
theorem strOk_of {x : Str} (h : ∀ c ∈ x.cps.toList, c < 0x110000) : PyData.strOk x = true := by
  unfold PyData.strOk
  rw [← Array.all_toList, List.all_eq_true]
  exact fun c hc => decide_eq_true (h c hc)
theorem field_ok {x : Str} (h : isFieldName (.str x) = true) : PyData.strOk x = true ∧ x.length ≤ 8 := by
  unfold isFieldName isWordN lettersIn at h
  rw [Bool.and_eq_true, Bool.and_eq_true, decide_eq_true_eq, decide_eq_true_eq, List.all_eq_true] at h
  exact ⟨strOk_of fun c hc => small_low c (of_decide_eq_true (h.2 c hc)), by have := h.1.2; omega⟩
theorem kind_ok {x : Str} (h : isKindName (.str x) = true) : PyData.strOk x = true ∧ x.length ≤ 8 := by
  unfold isKindName at h
  simp only at h
  cases e : x.cps.toList with
  | nil => rw [e] at h; cases h
  | cons c r =>
    rw [e] at h
    simp only [Bool.and_eq_true, decide_eq_true_eq, List.all_eq_true] at h
    refine ⟨strOk_of fun y hy => ?_, h.1.1⟩
    rw [e] at hy
    rcases List.mem_cons.mp hy with rfl | hy
    · exact large_low _ h.1.2
    · exact small_low _ (h.2 _ hy)
theorem shaped_str {x : Str} (h : PyData.strOk x = true) : SeqAt.shaped (.str x) = true := by simp [SeqAt.shaped, PyData.canLay0, PyData.depth, h]
theorem all_lay : ∀ w : List Str, (∀ x ∈ w, PyData.strOk x = true) → PyData.canLayAll0 (w.map PyData.str) = true ∧ PyData.depthAll (w.map PyData.str) ≤ 1
  | [], _ => by simp [PyData.canLayAll0, PyData.depthAll]
  | x :: w, h => by
    have q := all_lay w fun y hy => h y (List.mem_cons_of_mem _ hy)
    have hx := h x (List.mem_cons_self ..)
    simp [PyData.canLayAll0, PyData.depthAll, PyData.canLay0, PyData.depth, hx, q.1]
    exact q.2
structure RightF (g : FV) : Prop where
  n : isFieldName (.str g.n) = true
  m : (g.m = "mark" ∧ g.t = none ∧ -1000000000000 < g.d ∧ g.d < 1000000000000) ∨ ((g.m = "link" ∨ g.m = "list") ∧ g.d = 0 ∧ ∃ t, g.t = some t ∧ (t = "any" ∨ isKindName (.str t) = true))
  w2 : g.w.length ≤ 2
  wf : ∀ x ∈ g.w, isFieldName (.str x) = true
  wn : g.n ∉ g.w
  wd : g.w.Nodup
theorem any_ok : PyData.strOk "any" = true := by decide +kernel
theorem RightF.aim_ok {g : FV} (h : RightF g) : ∀ t, g.t = some t → PyData.strOk t = true ∧ t.length ≤ 8 := fun t e => by
  rcases h.m with ⟨_, e2, _⟩ | ⟨_, _, t2, e2, k⟩
  · rw [e2] at e; cases e
  · rw [e2] at e
    cases e
    rcases k with rfl | k
    · exact ⟨any_ok, by decide⟩
    · exact kind_ok k
theorem RightF.mode_ok {g : FV} (h : RightF g) : PyData.strOk g.m = true := by
  rcases h.m with ⟨e, _⟩ | ⟨e | e, _⟩ <;> rw [e] <;> decide +kernel
theorem RightF.good {g : FV} (h : RightF g) : GoodF g := by
  obtain ⟨n1, n2⟩ := field_ok h.n
  have ws : ∀ x ∈ g.w, PyData.strOk x = true := fun x hx => (field_ok (h.wf x hx)).1
  obtain ⟨w1, w2⟩ := all_lay g.w ws
  refine ⟨?_, shaped_str n1, shaped_str h.mode_ok, ?_, ?_, (by show g.n.length ≤ 1000; omega), ?_, fun ds e x hx => ?_⟩
  · unfold fieldRight
    have wr : wasRight g.n (.tuple (g.w.map .str)) = true := by
      show (decide ((g.w.map PyData.str).length ≤ 2) && (g.w.map PyData.str).all isFieldName && !(txts (g.w.map PyData.str)).contains g.n && decide (txts (g.w.map PyData.str)).Nodup) = true
      rw [txts_map, List.length_map, decide_eq_true h.w2, decide_eq_true h.wd, List.all_map]
      rw [show (g.w.all (isFieldName ∘ PyData.str)) = true from List.all_eq_true.mpr fun x hx => h.wf x hx]
      simp [h.wn]
    have fm : fitsMode (.str g.m) (tvD g.t) (.int g.d) = true := by
      unfold fitsMode
      rcases h.m with ⟨e1, e2, d0, d1⟩ | ⟨e1, d0, t, e2, k⟩
      · rw [e1, e2]
        simp [isTxt, Wp.isNon, tvD, isDefault, d0, d1]
      · rw [e2, d0]
        have k2 : (isTxt (.str t) "any" || isKindName (.str t)) = true := by
          rcases k with rfl | k
          · simp [isTxt]
          · rw [k, Bool.or_true]
        rcases e1 with e1 | e1
        · rw [e1]
          simp only [tvD, k2]
          rw [if_neg (by decide +kernel)]
          decide +kernel
        · rw [e1]
          simp only [tvD, k2]
          rw [if_neg (by decide +kernel)]
          decide +kernel
    rw [h.n, fm]
    exact wr
  · cases e : g.t with
    | none => rfl
    | some t => exact shaped_str (h.aim_ok t e).1
  · simp [SeqAt.shaped, PyData.canLay0, PyData.depth, w1]
    omega
  · cases e : g.t with
    | none => trivial
    | some t =>
      have := (h.aim_ok t e).2
      show t.length ≤ 1000
      omega
  · cases e
    obtain ⟨y, hy, rfl⟩ := List.mem_map.mp hx
    have := (field_ok (h.wf y hy)).2
    show y.length ≤ 1000
    omega
theorem areF {fs : List FV} (l : fs.length ≤ 10) (nd : (fs.map (·.n)).Nodup) : areFields (fs.map .f) = true := by
  unfold areFields
  rw [List.length_map, decide_eq_true l]
  have e1 : (fs.map Item.f).all isF = true := by
    rw [List.all_map, List.all_eq_true]
    intro _ _
    rfl
  have e2 : (fs.map Item.f).map nameOf = fs.map (·.n) := by
    rw [List.map_map]
    rfl
  rw [e1, e2, decide_eq_true nd]
  rfl
theorem good_of {x : KD} (fs : ∀ g ∈ x.fs, RightF g) (l : x.fs.length ≤ 10) (nd : (x.fs.map (·.n)).Nodup) (kn : isKindName (.str x.n) = true) (bn : ∀ b, x.b = some b → isKindName (.str b) = true ∧ x.n ≠ b) (ky : ∀ k, x.k = some k → isFieldName (.str k) = true)
    (cb : canBe (tvD x.b) (.bool x.f) (.bool x.h) (tvD x.k) (.bool x.r) = true) : GoodK x := by
  obtain ⟨n1, n2⟩ := kind_ok kn
  refine ⟨fun g mg => (fs g mg).good, ?_, shaped_str n1, ?_, ?_, (by show x.n.length ≤ 1000; omega), ?_, ?_, by omega⟩
  · unfold kindRight
    have e1 : namedOk (.str x.n) (tvD x.k) = true := by
      unfold namedOk
      rw [kn, Bool.true_and]
      cases e : x.k with
      | none => rfl
      | some k =>
        show (_ || isFieldName (.str k)) = true
        rw [ky k e, Bool.or_true]
    have e2 : basedOk (.str x.n) (tvD x.b) = true := by
      unfold basedOk
      cases e : x.b with
      | none => rfl
      | some b =>
        obtain ⟨b1, b2⟩ := bn b e
        show (_ || (isKindName (.str b) && !decide (x.n = b))) = true
        rw [b1, decide_eq_false b2]
        simp
    rw [e1, e2, show fieldsOk (some (x.fs.map .f)) = true from areF l nd, cb]
    rfl
  · cases e : x.b with
    | none => rfl
    | some b => exact shaped_str (kind_ok (bn b e).1).1
  · cases e : x.k with
    | none => rfl
    | some k => exact shaped_str (field_ok (ky k e)).1
  · cases e : x.b with
    | none => trivial
    | some b =>
      have := (kind_ok (bn b e).1).2
      show b.length ≤ 1000
      omega
  · cases e : x.k with
    | none => trivial
    | some k =>
      have := (field_ok (ky k e)).2
      show k.length ≤ 1000
      omega
theorem passLN {X : Cx} : Passes (L2N.CX X.prog X.w) X E0 := fun _ _ _ _ _ _ _ h => by
  obtain ⟨_, _, _, _, _, _, _, _, _, _, _, _, z⟩ := h
  exact z.elim
theorem FldOk.right {g : FV} (h : FldOk g) : RightF g := ⟨h.n.fld, h.m.imp id fun ⟨a, b, t, e, k⟩ => ⟨a, b, t, e, k.imp id fun k => k.ok⟩, h.w2, fun x mx => (h.w x mx).fld, h.wn, h.wd⟩
theorem RowV.good {x : KD} (h : RowV x) : GoodK x := by
  refine good_of (fun g mg => (h.fs g mg).right) h.f10 h.nd h.n.ok (fun b e => ⟨(h.b b e).1.ok, fun z => (h.b b e).2 z.symm⟩) (fun k e => (h.k k e).fld) ?_
  have h1 := h.fh
  have h2 := h.hh
  have h3 := h.r
  obtain ⟨n, fs, b, f, hh, k, r⟩ := x
  simp only at h1 h2 h3
  cases b <;> cases f <;> cases hh <;> cases k <;> cases r <;> simp at h1 h2 h3 <;> rfl
/-- fields made of fewer keywords -/
structure MkF3 (K : PySem.W.Frag) (fdI : FuncData) : Prop where
  dw : ∃ g : List Value → List Value → List Value, KBn K fdI psF 3 ["default", "was"] g (fun vs zs => vs ++ (.non :: zs))
  tw : ∃ g : List Value → List Value → List Value, KBn K fdI psF 3 ["target", "was"] g (fun vs zs => vs ++ (zs.take 1 ++ (.int 0 :: zs.drop 1)))
section
variable {P : Program} {w : World} {K : PySem.W.Frag} {mg : Str → Option Value} {base : Heap} {CF CK CH CB CB2 : Addr}
/-- a field that is new since H0 -/
def rFn (K : PySem.W.Frag) (CF : Addr) (H0 : Hp) : Rp FV := fun H v x => rF K CF H v x ∧ ∃ a, v = .ref a ∧ H0 a = none
theorem mFn (K : PySem.W.Frag) (CF : Addr) (H0 : Hp) : Mono (rFn K CF H0) := fun _ _ _ _ s h => ⟨mF K CF _ _ _ _ s h.1, h.2⟩
/-- a kind that is new since H0, with new fields -/
def rKn (K : PySem.W.Frag) (CF CK : Addr) (H0 : Hp) : Rp KD := fun H v x => rK K CF CK H v x ∧ ∃ a dx tf us, v = .ref a ∧ H0 a = none ∧ H a = some (.ins CK dx (fsK (.str x.n) (.ref tf) (tv x.b) (.bl x.f) (.bl x.h) (tv x.k) (.bl x.r))) ∧ SqT K H tf us ∧ Ev (rFn K CF H0) H us x.fs
abbrev sMf : Stmt := top 52
abbrev nMf : List Str := ["_law_field_here"]
def spMf (K : PySem.W.Frag) (CF : Addr) : Sp := fun vs H Q _ => ∃ (v : V) (g : FV), vs = [v] ∧ rLF K H v g ∧ FldOk g ∧ ∀ u H', Same H H' → rF K CF H' u g → (∃ a, u = .ref a ∧ H a = none) → Q u H'
theorem scMf : FnScope nMf ["_law_field_here"] (defScope sMf) := ⟨rfl, rfl, rfl, by decide +kernel, rfl, by decide +kernel, by decide +kernel⟩
theorem ok_Mf {f f1 : Addr} {fd fd1 : FuncData} (F : Fun K "_law_made_field" "_law_made_field" sMf f fd) (MF : MkF P w K mg base CF CB f1 fd1) (M3 : MkF3 K fd1) : FnOk P w K mg base CX0 6 f fd ["_law_field_here"] (spMf K CF) := by
  obtain ⟨⟨_, kdw⟩, ⟨_, ktw⟩⟩ := M3
  refine F.ok scMf (fun vs H Q E h => ?_) (fun cdv A outer s H vs Q E hr h => ?_)
  · obtain ⟨v, g, rfl, _⟩ := h
    rfl
  · obtain ⟨_, g, rfl, ⟨t, wt, rfl, ht, hwt⟩, og, k⟩ := h
    refine ⟨_, 
      (pss_cons (ps_if (pt_cmpR op_eq (pe_ix ix_tup (pv 0) pe_int (fun _ _ => rfl)) pe_str (nomark _)) 
        (pss_one (ps_ret (pe_makeK MF.made MF.ok (hr.mono (by decide)) rfl MF.gl kdw passL (pa_cons (pe_ix ix_tup (pv 0) pe_int (fun _ _ => rfl)) (pa_cons pe_str pa_nil)) (pk_cons (pe_ix ix_tup (pv 0) pe_int (fun _ _ => rfl)) (pk_cons (pe_ix ix_tup (pv 0) pe_int (fun _ _ => rfl)) pk_nil))))) pss_nil)
      (pss_one (ps_ret (pe_makeK MF.made MF.ok (hr.mono (by decide)) rfl MF.gl ktw passL (pa_cons (pe_ix ix_tup (pv 0) pe_int (fun _ _ => rfl)) (pa_cons (pe_ix ix_tup (pv 0) pe_int (fun _ _ => rfl)) pa_nil)) (pk_cons (pe_ix ix_tup (pv 0) pe_int (fun _ _ => rfl)) (pk_cons (pe_ix ix_tup (pv 0) pe_int (fun _ _ => rfl)) pk_nil)))))), ?_⟩
    have gg := og.right.good
    have done : ∀ (a da : Addr) (vs : List V), H a = none → H da = none → vs = [.ref a, .str g.n, .str g.m, tv g.t, .int g.d, .ref wt] → spFI K CF CB vs (upd (upd H da (.own a)) a (.ins CF da [])) (fun v H' => v = .non ∧ Q (.ref a) H') E0 := by
      intro a da vs ha hda e
      have sm := made_same (C := CF) ha hda
      refine ⟨a, da, _, _, _, _, _, .str g.n, .str g.m, tvD g.t, .int g.d, .tuple (g.w.map .str), e, upd_same, .dat (.str _) gg.n, .dat (.str _) gg.m, dq_tv gg.t, .dat (.int _) rfl, .dat (.tup (sm.sqT hwt) (dpAll_strs g.w)) gg.w, gg.sn, gg.st, gg.sw, fun _ H' tw b e sT => ⟨rfl, ?_⟩, fun bad => ?_⟩
      · refine k (.ref a) H' (fun c o q => b _ _ (ne_of_none q ha) (sm _ _ q)) ⟨a, rfl, ⟨da, tw, e, ?_⟩, gg.w⟩ ⟨a, rfl, ha⟩
        rw [show txtsOf (.tuple (g.w.map .str)) = g.w from txts_map g.w] at sT
        exact sT
      · rw [gg.right] at bad
        cases bad
    refine ⟨_, rfl, t, _, _, _, rfl, rfl, ht, atI_nat (j := 1) rfl, rfl, _, rfl, ?_⟩
    rw [dec_s]
    rcases og.m with ⟨m, et, _⟩ | ⟨m, ed, _⟩
    · rw [decide_eq_true m]
      refine iteT ⟨_, rfl, t, _, _, _, rfl, rfl, ht, atI_nat (j := 0) rfl, _, rfl, t, _, _, _, rfl, rfl, ht, atI_nat (j := 3) rfl, _, rfl, t, _, _, _, rfl, rfl, ht, atI_nat (j := 4) rfl, rfl, rfl, fun a da ha hda ne => ?_⟩
      exact done a da _ ha hda (by rw [m, et]; rfl)
    · have nm : ¬ g.m = "mark" := fun z => by rcases m with m | m <;> rw [m] at z <;> exact absurd z (by decide +kernel)
      rw [decide_eq_false nm]
      refine iteF ⟨_, rfl, t, _, _, _, rfl, rfl, ht, atI_nat (j := 0) rfl, _, rfl, t, _, _, _, rfl, rfl, ht, atI_nat (j := 1) rfl, _, rfl, t, _, _, _, rfl, rfl, ht, atI_nat (j := 2) rfl, _, rfl, t, _, _, _, rfl, rfl, ht, atI_nat (j := 4) rfl, rfl, rfl, fun a da ha hda ne => ?_⟩
      exact done a da _ ha hda (by rw [ed]; rfl)
abbrev sMk : Stmt := top 53
abbrev nMk : List Str := ["_law_row_here", "_law_fields", "_law_field_here"]
def spMk (K : PySem.W.Frag) (CF CK : Addr) : Sp := fun vs H Q _ => ∃ (v : V) (x : KD), vs = [v] ∧ rRow K H v x ∧ RowV x ∧ ∀ u H', Same H H' → rKn K CF CK H H' u x → Q u H'
theorem scMk : FnScope nMk ["_law_row_here"] (defScope sMk) := ⟨rfl, rfl, rfl, by decide +kernel, rfl, by decide +kernel, by decide +kernel⟩
theorem ok_Mk {f f1 f2 : Addr} {fd fd1 fd2 : FuncData} (F : Fun K "_law_made_kind" "_law_made_kind" sMk f fd) (MFD : Known P w K mg base CX0 6 "_law_made_field" ["_law_field_here"] (spMf K CF) f1 fd1) (MK : MkKd P w K mg base CF CK CB2 f2 fd2) : FnOk P w K mg base CX0 7 f fd ["_law_row_here"] (spMk K CF CK) := by
  refine F.ok scMk (fun vs H Q E h => ?_) (fun cdv A outer s H vs Q E hr h => ?_)
  · obtain ⟨v, x, rfl, _⟩ := h
    rfl
  · obtain ⟨_, x, rfl, ⟨d, lo, us, rfl, hd, hlo, ev⟩, rv, k⟩ := h
    have hu := hu_of hr
    refine ⟨_, 
      (pss_cons (ps_setLc (i := 1) (own := [("_law_field_here", 2)]) (g := gName 2) (tt := tYes) (te := (tCall (spMf K CF) [] E0 (tCons (tVar 2) tNil))) rfl scMk.nd rfl rfl (sw_true rfl rfl rfl (by decide +kernel)) (pi_list (pe_dget hu (pv 0) pe_str (fun _ _ => rfl))) (blkOk_by (N := nMk) (sc := defScope sMk) (by decide +kernel)) (fun _ _ _ _ _ => pg_name (i := 2) scMk.nd rfl (Or.inl rfl)) (fun _ _ _ _ _ => pts_nil) (fun _ _ _ _ _ => (pe_call MFD.ok (hr.mono (by decide)) rfl MFD.mg MFD.kp MFD.bi .nil pass0 (pa_cons (pv 2) pa_nil))))
      (pss_one (ps_ret (pe_makeK MK.made MK.ok (hr.mono (by decide)) rfl MK.gl MK.kb passLN (pa_cons (pe_dget hu (pv 0) pe_str (fun _ _ => rfl)) (pa_cons (pv 1) pa_nil)) (pk_cons (pe_dget hu (pv 0) pe_str (fun _ _ => rfl)) (pk_cons (pe_dget hu (pv 0) pe_str (fun _ _ => rfl)) (pk_cons (pe_dget hu (pv 0) pe_str (fun _ _ => rfl)) (pk_cons (pe_dget hu (pv 0) pe_str (fun _ _ => rfl)) (pk_cons (pe_dget hu (pv 0) pe_str (fun _ _ => rfl)) pk_nil))))))))), ?_⟩
    have gx := rv.good
    refine ⟨_, rfl, d, _, rfl, g_own hd, lo, rfl, ⟨us, hlo⟩, fun D hD => ?_⟩
    have none_of : ∀ {Ha Hb : Hp} {b : Addr}, Same Ha Hb → Hb b = none → Ha b = none := fun {Ha Hb b} s e => by
      cases q : Ha b with
      | none => rfl
      | some o => rw [s _ _ q] at e; cases e
    refine lc_sieve (mLF K) (mFn K CF H) (fun _ => true) id (cs := x.fs) walk_list gx.few (fun H' s => s.seq hlo) hD ev (fun v c H2 Rq _ _ _ kk => kk _ (Same.refl _)) ?_ ?_
    · rintro v g H2 Rq mg _ s2 r kk
      exact ⟨_, rfl, v, g, rfl, r, rv.fs g mg, fun u H' s' r' n' => kk u H' s' ⟨r', n'.imp fun a h => ⟨h.1, none_of s2 h.2⟩⟩⟩
    intro H2 ys s2 hys ey
    rw [filter_all, List.map_id] at ey
    have eyn := ey
    have ey : Ev (rF K CF) H2 ys x.fs := ⟨eyn.1, fun i x c a b => (eyn.2 i x c a b).1⟩
    have hd2 := s2 _ _ hd
    refine ⟨_, rfl, d, _, rfl, g_name hd2, _, rfl, _, rfl, d, _, rfl, g_base hd2, _, rfl, d, _, rfl, g_frozen hd2, _, rfl, d, _, rfl, g_heirs hd2, _, rfl, d, _, rfl, g_key hd2, _, rfl, d, _, rfl, g_registered hd2, rfl, rfl, fun a da ha hda ne => ?_⟩
    have sm := made_same (C := CK) ha hda
    refine ⟨a, da, _, _, _, _, _, _, _, .str x.n, tvD x.b, .bool x.f, .bool x.h, tvD x.k, .bool x.r, some (x.fs.map .f), ys, rfl, upd_same, .dat (.str _) gx.n, ⟨D, rfl, .inl (SqL.of (sm _ _ hys)), paired_F (ey.same (mF K CF) sm), by rw [List.length_map]; exact gx.few⟩, dq_tv gx.b, .dat (.bl _) rfl, .dat (.bl _) rfl, dq_tv gx.k, .dat (.bl _) rfl, gx.sn, gx.sb, gx.sk, fun _ H' tf b e sT => ⟨rfl, ?_⟩, fun bad => ?_⟩
    · have s3 : Same H2 H' := fun c o q => b _ _ (ne_of_none q ha) (sm _ _ q)
      exact k (.ref a) H' (s2.trans s3) ⟨⟨a, da, tf, rfl, e, ys, sT, ey.same (mF K CF) s3⟩, a, da, tf, ys, rfl, none_of s2 ha, e, sT, eyn.same (mFn K CF H) s3⟩
    · rw [gx.right] at bad
      cases bad
end
end Wh
set_option Elab.async false
set_option linter.all false
set_option maxRecDepth 100000
set_option maxHeartbeats 4000000
namespace Wh
open PySem PySem.Spec PyProof.Rows L2
open Wp hiding Same.refl Same.trans same_new boot_all
open W8 (Ev Rp Kp Mono same_new take_snoc rW rB mW mB ev_words ev_words_eq ev_bools_eq lc_sieve)
section
variable {P : Program} {w : World} {K : PySem.W.Frag} {mg : Str → Option Value} {base : Heap} {CF CK CH : Addr}
theorem pf1 (a b : V) : putF "names" b ([("root", a)] : List (Str × V)) = ([("root", a), ("names", b)] : List (Str × V)) := rfl
theorem pf2 (a b c : V) : putF "_kinds" c ([("root", a), ("names", b)] : List (Str × V)) = ([("root", a), ("names", b), ("_kinds", c)] : List (Str × V)) := rfl
theorem pf3 (a b c d : V) : putF "_by_name" d ([("root", a), ("names", b), ("_kinds", c)] : List (Str × V)) = ([("root", a), ("names", b), ("_kinds", c), ("_by_name", d)] : List (Str × V)) := rfl
theorem pf4 (a b c d e : V) : putF "_fields" e ([("root", a), ("names", b), ("_kinds", c), ("_by_name", d)] : List (Str × V)) = ([("root", a), ("names", b), ("_kinds", c), ("_by_name", d), ("_fields", e)] : List (Str × V)) := rfl
theorem pf5 (a b c d e f : V) : putF "_leads" f ([("root", a), ("names", b), ("_kinds", c), ("_by_name", d), ("_fields", e)] : List (Str × V)) = ([("root", a), ("names", b), ("_kinds", c), ("_by_name", d), ("_fields", e), ("_leads", f)] : List (Str × V)) := rfl
theorem pf6 (a b c d e f g : V) : putF "_far" g ([("root", a), ("names", b), ("_kinds", c), ("_by_name", d), ("_fields", e), ("_leads", f)] : List (Str × V)) = fsH a b c d e f g := rfl
abbrev sHI : Stmt := meth 32 2
abbrev nHI : List Str := ["self", "root", "kinds", "names", "by_name", "kind", "name"]
def spHI (K : PySem.W.Frag) (CF CK CH : Addr) : Sp := fun vs H Q _ => ∃ (s dx l : Addr) (root : Str) (xs : List V) (ks : List KD), vs = [.ref s, .str root, .ref l] ∧ H s = some (.ins CH dx []) ∧ (∃ o, H l = some o) ∧ (SqL K H l xs ∨ SqT K H l xs) ∧ Ev (rK K CF CK) H xs ks ∧ HouseOk root ks ∧
  ∀ H', But s H H' → HouseAt K CF CK CH H' s root ks → Q .non H'
theorem scHI : FnScope nHI ["self", "root", "kinds"] (defScope sHI) := ⟨rfl, rfl, rfl, by decide +kernel, rfl, by decide +kernel, by decide +kernel⟩
theorem ok_HI {f f1 f2 f3 f4 f5 f6 : Addr} {fd fd1 fd2 fd3 fd4 fd5 fd6 : FuncData} (F : Fun K "__init__" "House.__init__" sHI f fd) (B : Bn mg) (C : PlainC K CK ["name", "fields", "base", "frozen", "heirs", "key", "registered"]) (HC : PlainC K CH houseAt) (nF : CF ≠ CH) (nK : CK ≠ CH)
    (CKS : Known P w K mg base CX0 1 "_check_kinds" ["kinds"] (spChk K CF CK) f1 fd1) (AL : Known P w K mg base CX0 2 "_holds_alone" ["kind", "earlier", "names"] (spAln K CF CK) f2 fd2) (AF : Known P w K mg base CX0 1 "_all_fields" ["kind", "by_name"] (spAll K CF CK) f3 fd3)
    (LD : KMt P w K mg base CH CX0 2 "_leads_from" ["self", "name"] (spLd K CF CK CH) f4 fd4) (FR : Known P w K mg base CX0 1 "_far_from" ["name", "leads"] (spFar K) f5 fd5) (FZ : KMt P w K mg base CH CX0 1 "_check_frozen" ["self"] (spFz K CF CK CH) f6 fd6) :
    FnOk P w K mg base CX0 3 f fd ["self", "root", "kinds"] (spHI K CF CK CH) := by
  refine F.ok scHI (fun vs H Q E h => ?_) (fun cdv A outer s0 H vs Q E hr h => ?_)
  · obtain ⟨s, dx, l, root, xs, ks, rfl, _⟩ := h
    rfl
  · obtain ⟨s, dx, l, root, xs, ks, rfl, hs, ⟨ol, hol⟩, sq, ev, ok, k⟩ := h
    have hu := hu_of hr
    refine ⟨_, 
      (pss_cons (ps_expr (pe_call CKS.ok (hr.mono (by decide)) rfl CKS.mg CKS.kp CKS.bi .nil pass0 (pa_cons (pv 2) pa_nil)))
      (pss_cons (ps_set (i := 3) scHI.nd rfl (.inl rfl) (pe_callTy call_tuple_of (by rfl) B.tuple boot_ttuple (pa_cons (pe_lc (own := [("kind", 5)]) (g := gName 5) (tt := tYes) (te := tFld K (tVar 5) "name") rfl scHI.nd (pi_seqV (i := 2) (pv 2)) (blkOk_by (N := nHI) (sc := defScope sHI) (by decide +kernel)) (fun _ _ _ _ _ => pg_name (i := 5) scHI.nd rfl (Or.inl rfl)) (fun _ _ _ _ _ => pts_nil) (fun _ _ _ _ _ => (pe_fld (pv 5) rfl))) pa_nil)))
      (pss_cons (ps_set (i := 4) scHI.nd rfl (.inr rfl) pe_dnewK)
      (pss_cons (ps_for PassesOwn.never rfl (pi_seqV (i := 2) (pv 2)) (pg_name (i := 5) scHI.nd rfl (Or.inl rfl)) 
        (pss_cons (ps_if (pt_not (pt_val (pe_call AL.ok (hr.mono (by decide)) rfl AL.mg AL.kp AL.bi .nil pass0 (pa_cons (pv 5) (pa_cons (pv 4) (pa_cons (pv 3) pa_nil)))))) 
          (pss_one ps_dead) pss_nil)
        (pss_one (ps_dput hu (pv 4) (pe_fld (pv 5) rfl) (pv 5) rfl))))
      (pss_cons (ps_fld (pv 0) (pv 1) rfl)
      (pss_cons (ps_fld (pv 0) (pv 3) rfl)
      (pss_cut (ps_fld (pv 0) (pe_callTy call_tuple_of (by rfl) B.tuple boot_ttuple (pa_cons (pv 2) pa_nil)) rfl)
      (pss_cons (ps_fld (pv 0) (pv 4) rfl)
      (pss_cons (ps_fld (pv 0) (pe_dc (own := [("name", 6)]) (g := gName 6) (tt := tYes) (tk := tVar 6) (tv := tCall (spAll K CF CK) [] E0 (tCons (tDGet (tVar 4) (tVar 6)) (tCons (tVar 4) tNil))) rfl scHI.nd (pi_tup (pv 3)) (blkOk_by (N := nHI) (sc := defScope sHI) (by decide +kernel)) (fun _ _ _ _ _ => pg_name (i := 6) scHI.nd rfl (Or.inl rfl)) (fun _ _ _ _ _ => pts_nil) (fun _ _ _ _ _ => (pv 6)) (fun _ _ _ _ _ => (pe_call AF.ok (hr.mono (by decide)) rfl AF.mg AF.kp AF.bi .nil pass0 (pa_cons (pe_dget hu (pv 4) (pv 6) (fun _ _ => rfl)) (pa_cons (pv 4) pa_nil))))) rfl)
      (pss_cons (ps_fld (pv 0) (pe_dc (own := [("name", 6)]) (g := gName 6) (tt := tYes) (tk := tVar 6) (tv := tMeth CH "_leads_from" (spLd K CF CK CH) [] E0 (tVar 0) (tCons (tVar 6) tNil)) rfl scHI.nd (pi_tup (pv 3)) (blkOk_by (N := nHI) (sc := defScope sHI) (by decide +kernel)) (fun _ _ _ _ _ => pg_name (i := 6) scHI.nd rfl (Or.inl rfl)) (fun _ _ _ _ _ => pts_nil) (fun _ _ _ _ _ => (pv 6)) (fun _ _ _ _ _ => (pe_meth (pv 0) HC.cl LD.mt LD.ok (hr.mono (by decide)) LD.bi .nil pass0 (pa_cons (pv 6) pa_nil)))) rfl)
      (pss_cons (ps_fld (pv 0) (pe_dc (own := [("name", 6)]) (g := gName 6) (tt := tYes) (tk := tVar 6) (tv := tCall (spFar K) [] E0 (tCons (tVar 6) (tCons (tFld K (tVar 0) "_leads") tNil))) rfl scHI.nd (pi_tup (pv 3)) (blkOk_by (N := nHI) (sc := defScope sHI) (by decide +kernel)) (fun _ _ _ _ _ => pg_name (i := 6) scHI.nd rfl (Or.inl rfl)) (fun _ _ _ _ _ => pts_nil) (fun _ _ _ _ _ => (pv 6)) (fun _ _ _ _ _ => (pe_call FR.ok (hr.mono (by decide)) rfl FR.mg FR.kp FR.bi .nil pass0 (pa_cons (pv 6) (pa_cons (pe_fld (pv 0) rfl) pa_nil))))) rfl)
      (pss_cons (ps_expr (pe_meth0 (pv 0) HC.cl FZ.mt FZ.ok (hr.mono (by decide)) FZ.bi .nil pass0))
      (pss_one (ps_if (PW.pt (pw_or (pt_cmpR op_notIn_seq (pv 1) (pv 3) (by rfl)) (pw_or1 (pt_cmp (pc_notN (pe_fld (pe_dget hu (pv 4) (pv 1) (fun _ _ => rfl)) rfl)))))) 
        (pss_one ps_dead) pss_nil)))))))))))))), ?_⟩
    refine ⟨_, rfl, l, xs, ks, rfl, sq, ev, ok.n1, ok.n12, fun H1 s1 => ?_⟩
    have few : ks.length ≤ 1000 := Nat.le_trans ok.n12 (by decide)
    refine ⟨l, xs, rfl, seq_same s1 sq, fun J G w hG D hD => ?_⟩
    refine lc_sieve (mK K CF CK) mW (fun _ => true) (fun x => x.n) w few (fun H' s => hG H' (.of s)) hD (ev.same (mK K CF CK) s1) (fun v c H2 Rq _ _ _ kk => kk _ (Same.refl _)) ?_ ?_
    · rintro v c H2 Rq _ _ _ ⟨a, dy, tf, rfl, ha, _⟩ kk
      exact ⟨_, rfl, a, CK, dy, _, _, rfl, ha, C.cl, C.no _ (by simp), (lk_ks _ _ _ _ _ _ _).1, kk _ _ (Same.refl _) rfl⟩
    intro H2 ws s2 hws ew
    rw [filter_all] at ew
    have ews := ev_words_eq ew
    subst ews
    refine ⟨D, _, rfl, .inl ⟨SqL.of hws, fun tn htn dd hdd => ?_⟩⟩
    have s13 : Same H (upd H2 tn (.tup ((ks.map fun x => x.n).map V.str))) := s1.trans (s2.trans (same_new htn))
    have hT : SqT K (upd H2 tn (.tup ((ks.map fun x => x.n).map V.str))) tn ((ks.map fun x => x.n).map V.str) := SqT.of upd_same
    generalize upd H2 tn (.tup ((ks.map fun x => x.n).map V.str)) = H3 at s13 hT hdd ⊢
    refine ⟨l, xs, rfl, seq_same (s13.trans (same_new hdd)) sq, fun J2 G2 w2 hG2 => ?_⟩
    refine for_it w2 (fun j σ H' => ∃ v5, σ = [some (.ref s), some (.str root), some (.ref l), some (.ref tn), some (.ref dd), v5, none] ∧ Same H3 H' ∧ Dc (rK K CF CK) H' dd ((ks.take j).map (·.n)) (ks.take j))
      ⟨none, rfl, same_new hdd, Dc.nil upd_same⟩ (fun i σ H' _ ⟨_, _, s, q⟩ => hG2 H' fun o e => ?_) ?_ ?_
    · have hl3 := s13 _ _ hol
      rw [upd_ne (ne_of_none hl3 hdd)] at e
      exact s _ _ e
    · rintro j v σ H4 _ hj ⟨v5, rfl, s4, hd4⟩ ⟨rfl, hv⟩
      obtain ⟨x, hx, r⟩ := (ev.same (mK K CF CK) (s13.trans s4)).at hv
      obtain ⟨a, dy, tf, rfl, ha, hf⟩ := id r
      have ndj : ((ks.take j).map (·.n)).Nodup := (ok.nd).sublist (List.Sublist.map _ (List.take_sublist j ks))
      refine ⟨_, rfl, _, rfl, _, rfl, .ref a, dd, tn, x, ks.take j, ks.map (·.n), rfl, r, hd4, ndj, s4.sqT hT, ok.alone j x hx, fun H5 s5 => ⟨_, rfl, iteF ?_⟩⟩
      obtain ⟨H6, put, hd6, oth⟩ := (hd4.same (dK K CF CK) s5).put (dK K CF CK) (ok.alone j x hx).new (by rw [List.length_map, List.length_take]; omega) (rK_stay (.kp (.of s5)) r)
      refine ⟨_, rfl, _, rfl, _, rfl, a, CK, dy, _, _, rfl, s5 _ _ ha, C.cl, C.no _ (by simp), (lk_ks _ _ _ _ _ _ _).1, dd, H6, rfl, put, _, rfl, fun b o e => oth b o (ne_of_none e hdd) (s5 _ _ (s4 _ _ e)), ?_⟩
      rw [take_snoc hx, List.map_append]
      exact hd6
    · rintro σ H4 ⟨v5, rfl, s4, hd4⟩
      have tk : ks.take xs.length = ks := by rw [ev.1]; exact List.take_length
      rw [tk] at hd4
      have s04 : Same H H4 := s13.trans s4
      have hs4 := s04 _ _ hs
      have hT4 := s4.sqT hT
      have sq4 := seq_same s04 sq
      have ev4 := ev.same (mK K CF CK) s04
      -- root, names
      refine ⟨_, rfl, _, rfl, s, CH, dx, _, rfl, hs4, HC.cl, HC.no _ (by simp), (by decide), ?_⟩
      refine ⟨_, rfl, _, rfl, s, CH, dx, _, rfl, upd_same, HC.cl, HC.no _ (by simp), (by show 1 < 1000; decide), ?_⟩
      rw [show putF "root" (V.str root) [] = ([("root", V.str root)] : List (Str × V)) from rfl, pf1, upd_upd]
      have b5 : But s H4 (upd H4 s (.ins CH dx [("root", .str root), ("names", .ref tn)])) := fun b o n e => by rw [upd_ne n]; exact e
      have k5 : Kh CH H4 (upd H4 s (.ins CH dx [("root", .str root), ("names", .ref tn)])) := Kh.put hs4
      have hs5 : (upd H4 s (.ins CH dx [("root", .str root), ("names", .ref tn)])) s = some (.ins CH dx [("root", .str root), ("names", .ref tn)]) := upd_same
      generalize upd H4 s (.ins CH dx [("root", .str root), ("names", .ref tn)]) = H5 at b5 k5 hs5 ⊢
      refine ⟨fun σ H' => ∃ v5 tk, σ = [some (.ref s), some (.str root), some (.ref l), some (.ref tn), some (.ref dd), v5, none] ∧ H' s = some (.ins CH dx [("root", .str root), ("names", .ref tn), ("_kinds", .ref tk)]) ∧ Kh CH H4 H' ∧ But s H4 H' ∧ SqT K H' tk xs, ?_, ?_⟩
      · have sq5 : SqL K H5 l xs ∨ SqT K H5 l xs := sq4.imp k5.sqL k5.sqT
        have fin : ∀ (tk : Addr) (H6 : Hp), H6 s = some (.ins CH dx [("root", .str root), ("names", .ref tn)]) → Kh CH H4 H6 → But s H4 H6 → SqT K H6 tk xs → 
            ∃ v5' tk', [some (V.ref s), some (.str root), some (.ref l), some (.ref tn), some (.ref dd), v5, none] = [some (.ref s), some (.str root), some (.ref l), some (.ref tn), some (.ref dd), v5', none] ∧
              (upd H6 s (.ins CH dx (putF "_kinds" (.ref tk) [("root", .str root), ("names", .ref tn)]))) s = some (.ins CH dx [("root", .str root), ("names", .ref tn), ("_kinds", .ref tk')]) ∧ Kh CH H4 (upd H6 s (.ins CH dx (putF "_kinds" (.ref tk) [("root", .str root), ("names", .ref tn)]))) ∧ But s H4 (upd H6 s (.ins CH dx (putF "_kinds" (.ref tk) [("root", .str root), ("names", .ref tn)]))) ∧ SqT K (upd H6 s (.ins CH dx (putF "_kinds" (.ref tk) [("root", .str root), ("names", .ref tn)]))) tk' xs := by
          intro tk H6 h6 k6 b6 t6
          exact ⟨v5, tk, rfl, upd_same, k6.trans (Kh.put h6), fun b o n e => by rw [upd_ne n]; exact b6 b o n e, (Kh.put h6).sqT t6⟩
        rcases sq5 with sq5 | sq5
        · refine ⟨_, rfl, l, xs, rfl, .inl ⟨sq5, fun tk htk => ?_⟩⟩
          have sn : Same H5 (upd H5 tk (.tup xs)) := same_new htk
          exact ⟨_, rfl, s, CH, dx, _, rfl, sn _ _ hs5, HC.cl, HC.no _ (by simp), (by show 2 < 1000; decide), fin tk _ (sn _ _ hs5) (k5.trans (.of sn)) (fun b o n e => sn _ _ (b5 b o n e)) (SqT.of upd_same)⟩
        · exact ⟨_, rfl, l, xs, rfl, .inr ⟨sq5, _, rfl, s, CH, dx, _, rfl, hs5, HC.cl, HC.no _ (by simp), (by show 2 < 1000; decide), fin l _ hs5 k5 b5 sq5⟩⟩
      · rintro σ H6 ⟨v6, tk, rfl, hs6, k6, b6, ht6⟩
        refine ⟨_, rfl, _, rfl, s, CH, dx, _, rfl, hs6, HC.cl, HC.no _ (by simp), (by show 3 < 1000; decide), ?_⟩
        rw [pf3]
        have k7 := k6.trans (Kh.put (dx' := dx) (fs' := [("root", .str root), ("names", .ref tn), ("_kinds", .ref tk), ("_by_name", .ref dd)]) hs6)
        have b7 : But s H4 (upd H6 s (.ins CH dx [("root", .str root), ("names", .ref tn), ("_kinds", .ref tk), ("_by_name", .ref dd)])) := fun b o n e => by rw [upd_ne n]; exact b6 b o n e
        have ht7 := (Kh.put (dx' := dx) (fs' := [("root", .str root), ("names", .ref tn), ("_kinds", .ref tk), ("_by_name", .ref dd)]) hs6).sqT ht6
        have hs7 : (upd H6 s (.ins CH dx [("root", .str root), ("names", .ref tn), ("_kinds", .ref tk), ("_by_name", .ref dd)])) s = some (.ins CH dx [("root", .str root), ("names", .ref tn), ("_kinds", .ref tk), ("_by_name", .ref dd)]) := upd_same
        generalize upd H6 s (.ins CH dx [("root", .str root), ("names", .ref tn), ("_kinds", .ref tk), ("_by_name", .ref dd)]) = H7 at k7 b7 ht7 hs7 ⊢
        have hT7 := k7.sqT hT4
        have hd7 := hd4.kh (fun _ _ => rK_kh nF nK k7) k7
        have n12 : (ks.map (·.n)).length ≤ 1000 := by rw [List.length_map]; exact few
        -- _fields
        have fld : ∀ H' n, Same H7 H' → n ∈ ks.map (·.n) → ∃ x a, x ∈ ks ∧ x.n = n ∧ atName ks n = some x ∧ DGet H' dd (.str n) (some (.ref a)) ∧ rK K CF CK H' (.ref a) x := by
          intro H' n s' mn
          obtain ⟨i, u, z, hn, hz, r, g⟩ := (hd7.same (dK K CF CK) s').get mn
          obtain ⟨ez, fz⟩ := at_name ok.nd hn hz
          obtain ⟨a, _, _, rfl, _⟩ := id r
          exact ⟨z, a, List.mem_of_getElem? hz, ez, fz, g, r⟩
        have e1 : (ks.map (·.n)).map (fun n => ((atName ks n).map (allF ks)).getD []) = ks.map (allF ks) := by
          rw [List.map_map]
          refine List.map_congr_left fun x mx => ?_
          show ((atName ks x.n).map (allF ks)).getD [] = _
          rw [ok.atN mx]
          rfl
        refine ⟨_, rfl, tn, rfl, ⟨_, hT7⟩, fun Df hDf => ?_⟩
        refine dc_sieve (dTF K CF) (fun n => ((atName ks n).map (allF ks)).getD []) (ns := ks.map (fun z => KD.n z)) ok.nd n12 hT7 (by show 6 < 7; decide) hDf ?_ ?_
        · intro n H8 Rq mn s8 kk
          obtain ⟨x, a, mx, ex, at_, g, r⟩ := fld H8 n s8 mn
          refine ⟨_, rfl, _, rfl, dd, _, rfl, g, _, rfl, .ref a, dd, x, ks, rfl, r, hd7.same (dK K CF CK) s8, ok.nd, fun b eb => ok.base mx eb, Nat.le_trans (ok.few mx) (by decide), fun t H9 s9 ht => kk (.ref t) H9 s9 ⟨t, rfl, ?_⟩⟩
          rw [at_]
          exact ht
        intro H8 s8 hf8
        rw [e1] at hf8
        have k8 : Kh CH H4 H8 := k7.trans (.of s8)
        refine ⟨_, rfl, s, CH, dx, _, rfl, s8 _ _ hs7, HC.cl, HC.no _ (by simp), (by show 4 < 1000; decide), ?_⟩
        rw [pf4]
        have p9 : Kh CH H8 (upd H8 s (.ins CH dx [("root", .str root), ("names", .ref tn), ("_kinds", .ref tk), ("_by_name", .ref dd), ("_fields", .ref Df)])) := Kh.put (s8 _ _ hs7)
        have b9 : But s H4 (upd H8 s (.ins CH dx [("root", .str root), ("names", .ref tn), ("_kinds", .ref tk), ("_by_name", .ref dd), ("_fields", .ref Df)])) := fun b o n e => by rw [upd_ne n]; exact s8 _ _ (b7 b o n e)
        have hs9 : (upd H8 s (.ins CH dx [("root", .str root), ("names", .ref tn), ("_kinds", .ref tk), ("_by_name", .ref dd), ("_fields", .ref Df)])) s = some (.ins CH dx [("root", .str root), ("names", .ref tn), ("_kinds", .ref tk), ("_by_name", .ref dd), ("_fields", .ref Df)]) := upd_same
        generalize upd H8 s (.ins CH dx [("root", .str root), ("names", .ref tn), ("_kinds", .ref tk), ("_by_name", .ref dd), ("_fields", .ref Df)]) = H9 at p9 b9 hs9 ⊢
        have k9 := k8.trans p9
        have hT9 := k9.sqT hT4
        have hd9 := hd4.kh (fun _ _ => rK_kh nF nK k9) k9
        have hf9 := hf8.kh (fun _ _ => rTF_kh nF p9) p9
        -- _leads
        refine ⟨_, rfl, tn, rfl, ⟨_, hT9⟩, fun Dl hDl => ?_⟩
        refine dc_sieve dL (leadOf ks) (ns := ks.map (fun z => KD.n z)) ok.nd n12 hT9 (by show 6 < 7; decide) hDl ?_ ?_
        · intro n H10 Rq mn s10 kk
          obtain ⟨x, mx, rfl⟩ := List.mem_map.mp mn
          refine ⟨_, rfl, s, dx, _, rfl, s10 _ _ hs9, rfl, _, rfl, s, x.n, dx, dd, Df, tn, _, ks, x, rfl, s10 _ _ hs9, rfl, rfl, rfl, rfl, hd9.same (dK K CF CK) s10, ok.nd, hf9.same (dTF K CF) s10, s10.sqT hT9, mx, rfl, ok.aimed, fun y my => ok.few my, ok.n12, fun D H' s' hD' => kk (.ref D) H' s' ⟨D, rfl, ?_⟩⟩
          unfold leadOf
          rw [ok.atN mx]
          exact hD'
        intro H10 s10 hl10
        refine ⟨_, rfl, s, CH, dx, _, rfl, s10 _ _ hs9, HC.cl, HC.no _ (by simp), (by show 5 < 1000; decide), ?_⟩
        rw [pf5]
        have p11 : Kh CH H10 (upd H10 s (.ins CH dx [("root", .str root), ("names", .ref tn), ("_kinds", .ref tk), ("_by_name", .ref dd), ("_fields", .ref Df), ("_leads", .ref Dl)])) := Kh.put (s10 _ _ hs9)
        have b11 : But s H4 (upd H10 s (.ins CH dx [("root", .str root), ("names", .ref tn), ("_kinds", .ref tk), ("_by_name", .ref dd), ("_fields", .ref Df), ("_leads", .ref Dl)])) := fun b o n e => by rw [upd_ne n]; exact s10 _ _ (b9 b o n e)
        have hs11 : (upd H10 s (.ins CH dx [("root", .str root), ("names", .ref tn), ("_kinds", .ref tk), ("_by_name", .ref dd), ("_fields", .ref Df), ("_leads", .ref Dl)])) s = some (.ins CH dx [("root", .str root), ("names", .ref tn), ("_kinds", .ref tk), ("_by_name", .ref dd), ("_fields", .ref Df), ("_leads", .ref Dl)]) := upd_same
        generalize upd H10 s (.ins CH dx [("root", .str root), ("names", .ref tn), ("_kinds", .ref tk), ("_by_name", .ref dd), ("_fields", .ref Df), ("_leads", .ref Dl)]) = H11 at p11 b11 hs11 ⊢
        have p911 : Kh CH H9 H11 := Kh.trans (.of s10) p11
        have k11 := k9.trans p911
        have hT11 := k11.sqT hT4
        have hl11 := hl10.kh (fun _ _ => rL_kh p11) p11
        -- _far
        refine ⟨_, rfl, tn, rfl, ⟨_, hT11⟩, fun Dr hDr => ?_⟩
        refine dc_sieve dL (farK ks) (ns := ks.map (fun z => KD.n z)) ok.nd n12 hT11 (by show 6 < 7; decide) hDr ?_ ?_
        · intro n H12 Rq mn s12 kk
          exact ⟨_, rfl, _, rfl, s, CH, dx, _, _, rfl, s12 _ _ hs11, HC.cl, HC.no _ (by simp), rfl, n, Dl, ks.map (fun z => KD.n z), leadOf ks, rfl, hl11.same dL s12, ok.leads, mn, fun D H' s' hD' => kk (.ref D) H' s' ⟨D, rfl, hD'⟩⟩
        intro H12 s12 hr12
        refine ⟨_, rfl, s, CH, dx, _, rfl, s12 _ _ hs11, HC.cl, HC.no _ (by simp), (by show 6 < 1000; decide), ?_⟩
        rw [pf6]
        have p13 : Kh CH H12 (upd H12 s (.ins CH dx (fsH (.str root) (.ref tn) (.ref tk) (.ref dd) (.ref Df) (.ref Dl) (.ref Dr)))) := Kh.put (s12 _ _ hs11)
        have b13 : But s H4 (upd H12 s (.ins CH dx (fsH (.str root) (.ref tn) (.ref tk) (.ref dd) (.ref Df) (.ref Dl) (.ref Dr)))) := fun b o n e => by rw [upd_ne n]; exact s12 _ _ (b11 b o n e)
        have hs13 : (upd H12 s (.ins CH dx (fsH (.str root) (.ref tn) (.ref tk) (.ref dd) (.ref Df) (.ref Dl) (.ref Dr)))) s = some (.ins CH dx (fsH (.str root) (.ref tn) (.ref tk) (.ref dd) (.ref Df) (.ref Dl) (.ref Dr))) := upd_same
        generalize upd H12 s (.ins CH dx (fsH (.str root) (.ref tn) (.ref tk) (.ref dd) (.ref Df) (.ref Dl) (.ref Dr))) = H13 at p13 b13 hs13 ⊢
        have p1113 : Kh CH H11 H13 := Kh.trans (.of s12) p13
        have p913 := p911.trans p1113
        have k13 := k9.trans p913
        have p713 : Kh CH H7 H13 := Kh.trans (.of s8) (p9.trans p913)
        have hT13 := k13.sqT hT4
        have hd13 := hd4.kh (fun _ _ => rK_kh nF nK k13) k13
        have hf13 := hf9.kh (fun _ _ => rTF_kh nF p913) p913
        have hl13 := hl11.kh (fun _ _ => rL_kh p1113) p1113
        have hr13 := hr12.kh (fun _ _ => rL_kh p13) p13
        have ht13 : TuK K (rK K CF CK) H13 tk ks := ⟨xs, p713.sqT ht7, ev4.1, fun i x c a b => rK_kh nF nK k13 (ev4.2 i x c a b)⟩
        refine ⟨_, rfl, s, dx, _, rfl, hs13, rfl, s, dx, dd, Dr, tn, _, ks, farK ks, rfl, hs13, rfl, rfl, rfl, hd13, ok.nd, ok.n12, hr13, hT13, fun n mn => ?_, ok.frz, fun H14 s14 => ?_⟩
        · have q := far_mem (ns := ks.map (fun z => KD.n z)) (L := leadOf ks) (n := n)
          exact ⟨Nat.le_trans q.2 (by rw [List.length_map]; exact ok.n12), q.1⟩
        · obtain ⟨x, mx, ex, kx⟩ := ok.root
          have mr : root ∈ ks.map (·.n) := ex ▸ List.mem_map_of_mem mx
          obtain ⟨i, u, z, hn, hz, ⟨a, dz, tz, rfl, haz, _⟩, g⟩ := (hd13.same (dK K CF CK) s14).get mr
          obtain ⟨ez, fz⟩ := at_name ok.nd hn hz
          have zx : z = x := by
            have := ok.atN mx
            unfold atName at this
            rw [ex, fz] at this
            exact Option.some.inj this
          subst zx
          rw [kx] at haz
          refine ⟨_, rfl, _, rfl, tn, _, rfl, .inr (s14.sqT hT13), rfl, flat_strs _, _, rfl, ?_⟩
          rw [show inV (.str root) ((ks.map (fun z => KD.n z)).map V.str) = decide (root ∈ ks.map (fun z => KD.n z)) from mem_in, decide_eq_true mr]
          refine iteF ⟨_, rfl, _, rfl, dd, _, rfl, g, a, CK, dz, _, _, rfl, haz, C.cl, C.no _ (by simp), (lk_ks _ _ _ _ _ _ _).2.2.2.2.2.1, _, rfl, iteF ?_⟩
          refine k H14 (fun b o n e => s14 _ _ (b13 b o n (s04 _ _ e))) ⟨⟨dx, tn, tk, dd, Df, Dl, Dr, s14 _ _ hs13, s14.sqT hT13, ⟨xs, s14.sqT (p713.sqT ht7), ev4.1, fun i x c a b => dK K CF CK _ _ _ _ (.of s14) (rK_kh nF nK k13 (ev4.2 i x c a b))⟩, hd13.same (dK K CF CK) s14, hf13.same (dTF K CF) s14, hl13.same dL s14, hr13.same dL s14⟩, ok⟩
end
end Wh
set_option Elab.async false
set_option linter.all false
set_option maxRecDepth 100000
set_option maxHeartbeats 4000000
namespace Wh
open PySem PySem.Spec PyProof.Rows L2
open Wp hiding Same.refl Same.trans same_new boot_all
open W8 (Ev Rp Kp Mono same_new take_snoc rW rB mW mB ev_words ev_words_eq ev_bools_eq lc_sieve)
/-! ## not in, by the class's own word -/
section
variable {X : Cx} {CX : CXT} {n : Nat} {C f : Addr} {fd : FuncData} {ps : List Str} {sp : Sp} {E : XK}
theorem run_own {A : Around} {pins : List (Addr × Obj)} {σ : L2.St} {H : Hp} {s : Shared} {Q : VK} {us : List Value} {ys : List V} (F : FnOk X.prog X.w X.K X.mg X.base CX n f fd ps sp) (hb : Binds X.K fd ps []) (hx : Passes CX X E)
    (room : Room n A) (fr : A.frames = X.A.frames) (I : Inv X pins σ H s) (r : Vals ys us) (h : sp ys H Q E) : wpAny (model X.prog X.w) A (call (.ref f) us) (EP X pins σ Q) X.xe s := by
  have lenU : us.length = ps.length := by rw [← r.length, F.len _ _ _ _ h]
  have b0 := hb s us I.kIn (by simpa using lenU)
  rw [List.append_nil] at b0
  have e0 : Env0 X.prog X.w X.K X.mg X.base A X.stack s H := { I.env0 with frames := fr.trans I.env0.frames }
  refine wpAny_call (codeAny_mono (F.run A X.stack s H ⟨us, []⟩ us ys Q E room e0 b0 r h) ?_)
  rintro (e | (_ | _ | _ | u)) s2 got
  · exact hx pins σ H s e s2 I got
  · exact got.elim
  · exact got.elim
  · exact got.elim
  · exact I.after got
def rOwnHas (neg : Bool) (C : Addr) (sp : Sp) (E : XK) : R2 := fun y x H Q => ∃ a dx fs, x = .ref a ∧ H a = some (.ins C dx fs) ∧ sp [.ref a, y] H (fun v H' => ∃ c : Bool, v = .bl c ∧ Q (.bl (if neg then !c else c)) H') E
theorem op_ownNotIn (F : FnOk X.prog X.w X.K X.mg X.base CX n f fd ps sp) (hb : Binds X.K fd ps []) (hx : Passes CX X E) (hs : PySem.W.findIn X.K (.ref C) "__contains__" = some (some (.ref f))) (hf : PySem.W.isFn X.K (.ref f) = true) (room : Room n X.A) :
    OpR X (compareOp .NotIn) (rOwnHas true C sp E) := by
  rintro pins s σ H y x v u Q I ry rx ⟨a, dx, fs, rfl, ha, p⟩
  cases rx
  obtain ⟨ox, od, J⟩ : ∃ ox od, PySem.W.InstAt s.heap a ox C od := by
    obtain ⟨mA, J, _⟩ := ins_get I.hok ha
    obtain ⟨od, J, _⟩ := J.look
    exact ⟨_, od, J⟩
  obtain ⟨m, fr⟩ := I.fr
  refine PySem.W.notIn_K fr I.ok.mod.kin J hs hf ?_
  refine wpAny_mono (run_own F hb hx room rfl I (ys := [.ref a, y]) (.cons (show L2.RelV (.ref a) (.ref a) from rfl) (.cons ry .nil)) p) ?_ fun _ _ e => e
  rintro z s2 ⟨v, H2, I2, rz, c, rfl, q⟩
  obtain rfl := rz
  exact wpAny_truthy_bool ⟨.bl (!c), H2, I2, rfl, q⟩
end
/-- a def that lets out what it may -/
theorem fun_okC {CX : CXT} {P : Program} {w : World} {K : PySem.W.Frag} {mg : Str → Option Value} {base : Heap} {k : Nat} {nm qn : Str} {N ps : List Str} {st : Stmt} {f : Addr} {fd : FuncData} {sp : Sp} (F : Fun K nm qn st f fd) (S : FnScope N ps (defScope st))
    (len : ∀ ys H Q E, sp ys H Q E → ys.length = ps.length)
    (go : ∀ (cd : Value) (A : Around) (out : List Env) (s : Shared) (H : Hp) (ys : List V) (Q : VK) (E : XK), Room k (A.deeper (envOfC qn (defScope st) s.heap.objs.size f cd)) → sp ys H Q E →
      ∃ t, PSs (cxOf CX P w K mg base N qn (defScope st) f cd A out s H E) (defBody st) t ∧ t ⟨fun _ H' => Q .non H', Q, fun _ _ => False, fun _ _ => False⟩ (start N ys) H) : FnOk P w K mg base CX (k + 1) f fd ps sp := by
  obtain ⟨_, _, _, _, _, _, _, _, _, rfl, look, code⟩ := F.ex
  exact fn_of look code S len fun A out s H ys Q E room h => go _ A out s H ys Q E room h
def inHouse (ks : List KD) : PyData → Bool
  | .str n => decide (n ∈ ks.map (·.n))
  | _ => false
section
variable {P : Program} {w : World} {K : PySem.W.Frag} {mg : Str → Option Value} {base : Heap} {CF CK CH : Addr}
theorem HouseAt.same {H H' : Hp} {s : Addr} {root : Str} {ks : List KD} (h : HouseAt K CF CK CH H s root ks) (e : Same H H') : HouseAt K CF CK CH H' s root ks := by
  obtain ⟨⟨dx, tn, tk, d, df, dl, dr, h1, h2, ⟨xs, h3, h3e⟩, h4, h5, h6, h7⟩, ok⟩ := h
  exact ⟨⟨dx, tn, tk, d, df, dl, dr, e _ _ h1, e.sqT h2, ⟨xs, e.sqT h3, h3e.same (mK K CF CK) e⟩, h4.same (dK K CF CK) e, h5.same (dTF K CF) e, h6.same dL e, h7.same dL e⟩, ok⟩
theorem lk_h (a b c d e f g : V) : List.lookup ("root" : Str) (fsH a b c d e f g) = some a ∧ List.lookup ("names" : Str) (fsH a b c d e f g) = some b ∧ List.lookup ("_kinds" : Str) (fsH a b c d e f g) = some c ∧ List.lookup ("_by_name" : Str) (fsH a b c d e f g) = some d ∧
    List.lookup ("_fields" : Str) (fsH a b c d e f g) = some e ∧ List.lookup ("_leads" : Str) (fsH a b c d e f g) = some f ∧ List.lookup ("_far" : Str) (fsH a b c d e f g) = some g := ⟨rfl, rfl, rfl, rfl, rfl, rfl, rfl⟩
abbrev sHas : Stmt := meth 32 5
abbrev nHas : List Str := ["self", "x"]
def spHas (K : PySem.W.Frag) (CF CK CH : Addr) : Sp := fun vs H Q _ => ∃ (s : Addr) (v : V) (d : PyData) (root : Str) (ks : List KD), vs = [.ref s, v] ∧ HouseAt K CF CK CH H s root ks ∧ Dq K H v d ∧ Q (.bl (inHouse ks d)) H
theorem scHas : FnScope nHas nHas (defScope sHas) := ⟨rfl, rfl, rfl, by decide +kernel, rfl, by decide +kernel, by decide +kernel⟩
theorem ok_has {f : Addr} {fd : FuncData} (F : Fun K "__contains__" "House.__contains__" sHas f fd) (B : Bn mg) (HC : PlainC K CH houseAt) : FnOk P w K mg base CX0 1 f fd nHas (spHas K CF CK CH) := by
  refine F.ok scHas (fun vs H Q E h => ?_) (fun cdv A outer s0 H vs Q E hr h => ?_)
  · obtain ⟨s, v, d, root, ks, rfl, _⟩ := h
    rfl
  · obtain ⟨s, v, d, root, ks, rfl, ⟨⟨dx, tn, tk, dd, df, dl, dr, hs, hT, _, hd, _⟩, ok⟩, q, k⟩ := h
    have hu := hu_of hr
    refine ⟨_, 
      (pss_one (ps_ret (pe_and (pe_callB call_isi (by rfl) B.isi boot_isi (pa_cons (pv 1) (pa_cons (pe_bltn (v := .ty "str") (by rfl) B.str boot_tstr rfl) pa_nil))) (pe_one (pe_cmp (pc_din hu (pv 1) (pe_fld (pv 0) rfl))))))), ?_⟩
    refine ⟨_, rfl, _, _, _, _, _, rfl, .ty "str", q.ty, kit_str d, _, rfl, ?_⟩
    cases d with
    | str x =>
      have ev : v = .str x := by
        cases q with
        | dat q _ => cases q; rfl
      subst ev
      obtain ⟨o, g, eo⟩ := hd.has x
      refine ⟨_, rfl, _, rfl, s, CH, dx, _, _, rfl, hs, HC.cl, HC.no _ (by simp), (lk_h _ _ _ _ _ _ _).2.2.2.1, dd, o, rfl, g, ?_⟩
      rw [eo]
      exact k
    | _ => exact k
/-! ## what a house is asked -/
abbrev sCk : Stmt := meth 32 9
abbrev nCk : List Str := ["self", "kind"]
/-- asked for a kind that it has: nothing; for another: UnknownKind, of that name -/
def spCk (K : PySem.W.Frag) (CF CK CH CU : Addr) : Sp := fun vs H Q E => ∃ (s : Addr) (v : V) (d : PyData) (root : Str) (ks : List KD), vs = [.ref s, v] ∧ HouseAt K CF CK CH H s root ks ∧ Dq K H v d ∧
  (inHouse ks d = true → Q .non H) ∧ (inHouse ks d = false → ∀ (H' : Hp) (e : Addr), Same H H' → H e = none → H' e = some (.xd [("name", v)]) → E (.ref CU) (some e) H')
theorem scCk : FnScope nCk nCk (defScope sCk) := ⟨rfl, rfl, rfl, by decide +kernel, rfl, by decide +kernel, by decide +kernel⟩
theorem ok_ck {f f1 CU fU : Addr} {fd fd1 fdU : FuncData} (F : Fun K "_check" "House._check" sCk f fd) (HS : KMt P w K mg base CH CX0 1 "__contains__" nHas (spHas K CF CK CH) f1 fd1) (hasIn : PySem.W.findIn K (.ref CH) "__contains__" = some (some (.ref f1))) (hasFn : PySem.W.isFn K (.ref f1) = true)
    (M : Mk1 P w K mg base "UnknownKind" "name" CU fU fdU) : FnOk P w K mg base (L2N.CX P w) 3 f fd nCk (spCk K CF CK CH CU) := by
  refine fun_okC F scCk (fun vs H Q E h => ?_) (fun cdv A outer s0 H vs Q E hr h => ?_)
  · obtain ⟨s, v, d, root, ks, rfl, _⟩ := h
    rfl
  · obtain ⟨s, v, d, root, ks, rfl, ha, q, k1, k2⟩ := h
    have hu := hu_of hr
    refine ⟨_, 
      (pss_one (ps_if (pt_cmpR (op_ownNotIn HS.ok HS.bi pass0 hasIn hasFn (hr.mono (by decide))) (pv 1) (pv 0) (by rfl)) 
        (pss_one (L2N.ps_raise rfl (L2N.takes_of rfl rfl rfl rfl) (pmk_oexN M.T M.iC M.tI M.FI (hr.mono (by decide)) M.bI pass0 (by rfl) M.gC (pa_cons (pv 1) pa_nil)))) pss_nil)), ?_⟩
    obtain ⟨dx, tn, tk, dd, df, dl, dr, hs, _⟩ := ha.ex
    refine ⟨_, rfl, _, rfl, s, dx, _, rfl, hs, s, v, d, root, ks, rfl, ha, q, _, rfl, _, rfl, ?_⟩
    cases e : inHouse ks d with
    | true => exact iteF (k1 e)
    | false =>
      refine iteT ⟨_, rfl, rs1 (Q := E) fun d0 nd => k2 e _ d0 (same_new nd) nd upd_same⟩
abbrev sFo : Stmt := meth 32 11
abbrev nFo : List Str := ["self", "kind"]
def spFo (K : PySem.W.Frag) (CF CK CH : Addr) : Sp := fun vs H Q _ => ∃ (s : Addr) (root : Str) (ks : List KD) (x : KD), vs = [.ref s, .str x.n] ∧ HouseAt K CF CK CH H s root ks ∧ Dq K H (.str x.n) (.str x.n) ∧ x ∈ ks ∧
  ∀ D H' us, Same H H' → H' D = some (.lst us) → Ev (rF K CF) H' us (allF ks x) → Q (.ref D) H'
theorem scFo : FnScope nFo nFo (defScope sFo) := ⟨rfl, rfl, rfl, by decide +kernel, rfl, by decide +kernel, by decide +kernel⟩
theorem get_allF {H : Hp} {ks : List KD} {x : KD} {df : Addr} (h : Dc (rTF K CF) H df (ks.map (·.n)) (ks.map (allF ks))) (nd : (ks.map (·.n)).Nodup) (mx : x ∈ ks) : ∃ t us, DGet H df (.str x.n) (some (.ref t)) ∧ SqT K H t us ∧ Ev (rF K CF) H us (allF ks x) := by
  obtain ⟨i, u, gs, hi, hz, ⟨t, rfl, us, hus, evu⟩, g⟩ := h.get (List.mem_map_of_mem mx)
  have egs : gs = allF ks x := by
    obtain ⟨j, hj, ej⟩ := List.getElem_of_mem mx
    have q : (ks.map (·.n))[j]? = some x.n := by rw [List.getElem?_map, List.getElem?_eq_getElem hj, ej]; rfl
    have q2 : i < (ks.map (·.n)).length := (List.getElem?_eq_some_iff.mp hi).1
    have := (List.getElem?_inj (i := i) (j := j) q2 nd).mp (hi.trans q.symm)
    subst this
    rw [List.getElem?_map, List.getElem?_eq_getElem hj, ej] at hz
    exact (Option.some.inj hz).symm
  subst egs
  exact ⟨t, us, g, hus, evu⟩
theorem in_house {ks : List KD} {x : KD} (mx : x ∈ ks) : inHouse ks (.str x.n) = true := decide_eq_true (List.mem_map_of_mem mx)
theorem ok_fo {f f1 CU : Addr} {fd fd1 : FuncData} (F : Fun K "fields_of" "House.fields_of" sFo f fd) (B : Bn mg) (HC : PlainC K CH houseAt) (CK0 : KMt P w K mg base CH (L2N.CX P w) 3 "_check" nCk (spCk K CF CK CH CU) f1 fd1) : FnOk P w K mg base (L2N.CX P w) 4 f fd nFo (spFo K CF CK CH) := by
  refine fun_okC F scFo (fun vs H Q E h => ?_) (fun cdv A outer s0 H vs Q E hr h => ?_)
  · obtain ⟨s, root, ks, x, rfl, _⟩ := h
    rfl
  · obtain ⟨s, root, ks, x, rfl, ha, q, mx, k⟩ := h
    have hu := hu_of hr
    refine ⟨_, 
      (pss_cons (ps_expr (pe_meth (pv 0) HC.cl CK0.mt CK0.ok (hr.mono (by decide)) CK0.bi .nil (L2N.passes_call (L2N.takes_of rfl rfl rfl rfl) (fun _ _ _ _ h => h)) (pa_cons (pv 1) pa_nil)))
      (pss_one (ps_ret (pe_callTy call_list_of (by rfl) B.list PyProof.Rows.boot_list (pa_cons (pe_dget hu (pe_fld (pv 0) rfl) (pv 1) (fun _ _ => rfl)) pa_nil))))), ?_⟩
    obtain ⟨dx, tn, tk, dd, df, dl, dr, hs, _, _, _, hf, _⟩ := ha.ex
    obtain ⟨t, us, g, hus, evu⟩ := get_allF hf ha.ok.nd mx
    refine ⟨_, rfl, s, dx, _, rfl, hs, rfl, _, rfl, s, .str x.n, .str x.n, root, ks, rfl, ha, q, fun _ => ?_, fun e => ?_⟩
    · exact ⟨_, rfl, s, CH, dx, _, _, rfl, hs, HC.cl, HC.no _ (by simp), (lk_h _ _ _ _ _ _ _).2.2.2.2.1, _, rfl, df, _, rfl, g, t, us, rfl, .inr hus, fun D hD => k D _ us (same_new hD) upd_same (evu.same (mF K CF) (same_new hD))⟩
    · rw [in_house mx] at e
      cases e
abbrev sFd : Stmt := meth 32 12
abbrev nFd : List Str := ["self", "kind", "name", "field"]
/-- the first field of a name -/
def fieldNamed (gs : List FV) : PyData → Option FV
  | .str n => gs.find? fun g => decide (g.n = n)
  | _ => none
def spFd (K : PySem.W.Frag) (CF CK CH CU CV : Addr) : Sp := fun vs H Q E => ∃ (s : Addr) (v y : V) (d z : PyData) (root : Str) (ks : List KD), vs = [.ref s, v, y] ∧ HouseAt K CF CK CH H s root ks ∧ Dq K H v d ∧ Dq K H y z ∧ (∀ n, scal (.str n) y = true) ∧
  (inHouse ks d = false → ∀ (H' : Hp) (e : Addr), Same H H' → H e = none → H' e = some (.xd [("name", v)]) → E (.ref CU) (some e) H') ∧
  ∀ x ∈ ks, d = .str x.n → ((∀ g, fieldNamed (allF ks x) z = some g → ∀ u, rF K CF H u g → Q u H) ∧ (fieldNamed (allF ks x) z = none → ∀ (H' : Hp) (e : Addr), Same H H' → H e = none → H' e = some (.xd [("name", y), ("kind", v)]) → E (.ref CV) (some e) H'))
theorem scFd : FnScope nFd ["self", "kind", "name"] (defScope sFd) := ⟨rfl, rfl, rfl, by decide +kernel, rfl, by decide +kernel, by decide +kernel⟩
theorem ok_fd {f f1 CU CV fV : Addr} {fd fd1 fdV : FuncData} (F : Fun K "field_of" "House.field_of" sFd f fd) (HC : PlainC K CH houseAt) (CFc : PlainC K CF ["name", "mode", "target", "default", "was"]) (CK0 : KMt P w K mg base CH (L2N.CX P w) 3 "_check" nCk (spCk K CF CK CH CU) f1 fd1)
    (M : Mk2 P w K mg base "UnknownField" "kind" "name" CV fV fdV) : FnOk P w K mg base (L2N.CX P w) 4 f fd ["self", "kind", "name"] (spFd K CF CK CH CU CV) := by
  refine fun_okC F scFd (fun vs H Q E h => ?_) (fun cdv A outer s0 H vs Q E hr h => ?_)
  · obtain ⟨s, v, y, d, z, root, ks, rfl, _⟩ := h
    rfl
  · obtain ⟨s, v, y, d, z, root, ks, rfl, ha, q, qz, sy, k1, k2⟩ := h
    have hu := hu_of hr
    refine ⟨_, 
      (pss_cons (ps_expr (pe_meth (pv 0) HC.cl CK0.mt CK0.ok (hr.mono (by decide)) CK0.bi .nil (L2N.passes_call (L2N.takes_of rfl rfl rfl rfl) (fun _ _ _ _ h => h)) (pa_cons (pv 1) pa_nil)))
      (pss_cons (ps_for PassesOwn.leaving rfl (pi_tup (pe_dget hu (pe_fld (pv 0) rfl) (pv 1) (fun _ _ => rfl))) (pg_name (i := 3) scFd.nd rfl (Or.inl rfl)) 
        (pss_one (ps_if (pt_cmpR op_eq (pe_fld (pv 3) rfl) (pv 2) (nomark _)) 
          (pss_one (ps_ret (pv 3))) pss_nil)))
      (pss_one (L2N.ps_raise rfl (L2N.takes_of rfl rfl rfl rfl) (pmk_oexN M.T M.iC M.tI M.FI (hr.mono (by decide)) M.bI pass0 (by rfl) M.gC (pa_cons (pv 1) (pa_cons (pv 2) pa_nil))))))), ?_⟩
    obtain ⟨dx, tn, tk, dd, df, dl, dr, hs, _, _, _, hf, _⟩ := ha.ex
    refine ⟨_, rfl, s, dx, _, rfl, hs, rfl, _, rfl, s, v, d, root, ks, rfl, ha, q, fun e => ?_, fun e => ?_⟩
    · obtain ⟨n, rfl⟩ : ∃ n, d = .str n := by
        cases d <;> first | exact ⟨_, rfl⟩ | cases e
      obtain ⟨x, mx, rfl⟩ := List.mem_map.mp (of_decide_eq_true e)
      cases q.str_of
      obtain ⟨p1, p2⟩ := k2 x mx rfl
      obtain ⟨t, us, g, hus, evu⟩ := get_allF hf ha.ok.nd mx
      refine ⟨_, rfl, s, CH, dx, _, _, rfl, hs, HC.cl, HC.no _ (by simp), (lk_h _ _ _ _ _ _ _).2.2.2.2.1, _, rfl, df, _, rfl, g, t, rfl, ⟨us, hus⟩, ?_⟩
      refine for_it (walk_tup (xs := us)) (fun j σ H' => H' = H ∧ ∃ v3, σ = [some (.ref s), some (.str x.n), some y, v3] ∧ fieldNamed ((allF ks x).take j) z = none) ⟨rfl, none, rfl, by cases z <;> rfl⟩ (fun i σ H' _ ⟨e, _⟩ => e ▸ hus) ?_ ?_
      · rintro j u σ _ _ hj ⟨rfl, v3, rfl, no⟩ ⟨rfl, hv⟩
        obtain ⟨g0, hg0, r⟩ := evu.at hv
        obtain ⟨b, rfl, ⟨dy, tw, hb, _⟩, _⟩ := id r
        have tk : (allF ks x).take (j + 1) = (allF ks x).take j ++ [g0] := take_snoc hg0
        have eq : decide (V.str g0.n = y) = (fieldNamed [g0] z).isSome := by
          cases z with
          | str n =>
            cases qz.str_of
            rw [dec_s]
            by_cases e9 : g0.n = n <;> simp [fieldNamed, List.find?, e9]
          | _ =>
            show _ = false
            refine decide_eq_false fun e9 => ?_
            subst e9
            cases qz with
            | dat q9 _ => cases q9
        have ap : ∀ gs hs : List FV, fieldNamed gs z = none → fieldNamed (gs ++ hs) z = fieldNamed hs z := fun gs hs e9 => by
          cases z with
          | str n =>
            simp only [fieldNamed] at e9 ⊢
            rw [List.find?_append, e9]
            rfl
          | _ => rfl
        refine ⟨_, rfl, b, CF, dy, _, _, rfl, hb, CFc.cl, CFc.no _ (by simp), (lk_fs _ _ _ _ _).2.2.2.2, _, rfl, sy _, _, rfl, ?_⟩
        rw [eq]
        cases e8 : fieldNamed [g0] z with
        | none =>
          refine iteF ⟨rfl, _, rfl, ?_⟩
          rw [tk, ap _ _ no, e8]
        | some g1 =>
          have e7 : g1 = g0 := by
            cases z with
            | str n =>
              simp only [fieldNamed] at e8
              have := List.mem_of_find?_eq_some e8
              exact List.mem_singleton.mp this
            | _ => cases e8
          subst e7
          refine iteT ⟨_, rfl, p1 g1 ?_ _ r⟩
          have whole : allF ks x = (allF ks x).take j ++ ([g1] ++ (allF ks x).drop (j + 1)) := by
            rw [← List.append_assoc, ← tk, List.take_append_drop]
          rw [whole, ap _ _ no]
          cases z with
          | str n =>
            simp only [fieldNamed] at e8 ⊢
            rw [List.find?_append, e8]
            rfl
          | _ => cases e8
      · rintro σ _ ⟨rfl, v3, rfl, no⟩
        rw [evu.1, List.take_length] at no
        exact ⟨_, rfl, _, rfl, rs2 (Q := E) fun d0 nd => p2 no _ d0 (same_new nd) nd upd_same⟩
    · exact k1 e
end
end Wh
set_option Elab.async false
set_option linter.all false
set_option maxRecDepth 100000
set_option maxHeartbeats 4000000
namespace Wh
open PySem PySem.Spec PyProof.Rows L2
open Wp hiding Same.refl Same.trans same_new boot_all
open W8 (Ev Rp Kp Mono same_new take_snoc rW rB mW mB ev_words ev_words_eq ev_bools_eq lc_sieve)
section
variable {X : Cx} {CX : CXT} {n : Nat} {C f : Addr} {fd : FuncData} {ps : List Str} {sp : Sp} {E : XK}
theorem op_ownIn (F : FnOk X.prog X.w X.K X.mg X.base CX n f fd ps sp) (hb : Binds X.K fd ps []) (hx : Passes CX X E) (hs : PySem.W.findIn X.K (.ref C) "__contains__" = some (some (.ref f))) (hf : PySem.W.isFn X.K (.ref f) = true) (room : Room n X.A) :
    OpR X (compareOp .In) (rOwnHas false C sp E) := by
  rintro pins s σ H y x v u Q I ry rx ⟨a, dx, fs, rfl, ha, p⟩
  cases rx
  obtain ⟨ox, od, J⟩ : ∃ ox od, PySem.W.InstAt s.heap a ox C od := by
    obtain ⟨mA, J, _⟩ := ins_get I.hok ha
    obtain ⟨od, J, _⟩ := J.look
    exact ⟨_, od, J⟩
  obtain ⟨m, fr⟩ := I.fr
  refine PySem.W.in_K fr I.ok.mod.kin J hs hf ?_
  refine wpAny_mono (run_own F hb hx room rfl I (ys := [.ref a, y]) (.cons (show L2.RelV (.ref a) (.ref a) from rfl) (.cons ry .nil)) p) ?_ fun _ _ e => e
  rintro z s2 ⟨v, H2, I2, rz, c, rfl, q⟩
  obtain rfl := rz
  exact wpAny_truthy_bool ⟨.bl c, H2, I2, rfl, q⟩
end
section
variable {P : Program} {w : World} {K : PySem.W.Frag} {mg : Str → Option Value} {base : Heap} {CF CK CH : Addr}
/-- what stands behind a name -/
theorem get_kind {H : Hp} {ks : List KD} {x : KD} {d : Addr} (h : Dc (rK K CF CK) H d (ks.map (·.n)) ks) (nd : (ks.map (·.n)).Nodup) (mx : x ∈ ks) : ∃ v, DGet H d (.str x.n) (some v) ∧ rK K CF CK H v x := by
  obtain ⟨i, u, z, hi, hz, r, g⟩ := h.get (List.mem_map_of_mem mx)
  obtain ⟨j, hj, ej⟩ := List.getElem_of_mem mx
  have q : (ks.map (·.n))[j]? = some x.n := by rw [List.getElem?_map, List.getElem?_eq_getElem hj, ej]; rfl
  have := (List.getElem?_inj (i := i) (j := j) (List.getElem?_eq_some_iff.mp hi).1 nd).mp (hi.trans q.symm)
  subst this
  rw [List.getElem?_eq_getElem hj, ej] at hz
  cases hz
  exact ⟨u, g, r⟩
abbrev sKd : Stmt := meth 32 10
abbrev nKd : List Str := ["self", "kind"]
def spKd (K : PySem.W.Frag) (CF CK CH : Addr) : Sp := fun vs H Q _ => ∃ (s : Addr) (root : Str) (ks : List KD) (x : KD), vs = [.ref s, .str x.n] ∧ HouseAt K CF CK CH H s root ks ∧ Dq K H (.str x.n) (.str x.n) ∧ x ∈ ks ∧ ∀ v, rK K CF CK H v x → Q v H
theorem scKd : FnScope nKd nKd (defScope sKd) := ⟨rfl, rfl, rfl, by decide +kernel, rfl, by decide +kernel, by decide +kernel⟩
theorem ok_Kd {f f1 CU : Addr} {fd fd1 : FuncData} (F : Fun K "kind_named" "House.kind_named" sKd f fd) (HC : PlainC K CH houseAt) (CK0 : KMt P w K mg base CH (L2N.CX P w) 3 "_check" nCk (spCk K CF CK CH CU) f1 fd1) : FnOk P w K mg base (L2N.CX P w) 4 f fd nKd (spKd K CF CK CH) := by
  refine fun_okC F scKd (fun vs H Q E h => ?_) (fun cdv A outer s0 H vs Q E hr h => ?_)
  · obtain ⟨s, root, ks, x, rfl, _⟩ := h
    rfl
  · obtain ⟨s, root, ks, x, rfl, ha, q, mx, k⟩ := h
    have hu := hu_of hr
    refine ⟨_, 
      (pss_cons (ps_expr (pe_meth (pv 0) HC.cl CK0.mt CK0.ok (hr.mono (by decide)) CK0.bi .nil (L2N.passes_call (L2N.takes_of rfl rfl rfl rfl) (fun _ _ _ _ h => h)) (pa_cons (pv 1) pa_nil)))
      (pss_one (ps_ret (pe_dget hu (pe_fld (pv 0) rfl) (pv 1) (fun _ _ => rfl))))), ?_⟩
    obtain ⟨dx, tn, tk, dd, df, dl, dr, hs, _, _, hd, _, _⟩ := ha.ex
    obtain ⟨v, g, r⟩ := get_kind hd ha.ok.nd mx
    refine ⟨_, rfl, s, dx, _, rfl, hs, rfl, _, rfl, s, .str x.n, .str x.n, root, ks, rfl, ha, q, fun _ => ?_, fun e => ?_⟩
    · exact ⟨_, rfl, s, CH, dx, _, _, rfl, hs, HC.cl, HC.no _ (by simp), (lk_h _ _ _ _ _ _ _).2.2.2.1, _, rfl, dd, _, rfl, g, k v r⟩
    · rw [in_house mx] at e
      cases e
abbrev sHl : Stmt := meth 32 4
abbrev nHl : List Str := ["self"]
def spHl (K : PySem.W.Frag) (CF CK CH : Addr) : Sp := fun vs H Q _ => ∃ (s : Addr) (root : Str) (ks : List KD), vs = [.ref s] ∧ HouseAt K CF CK CH H s root ks ∧ Q (.int (ks.length : Nat)) H
theorem scHl : FnScope nHl nHl (defScope sHl) := ⟨rfl, rfl, rfl, by decide +kernel, rfl, by decide +kernel, by decide +kernel⟩
theorem ok_Hl {f : Addr} {fd : FuncData} (F : Fun K "__len__" "House.__len__" sHl f fd) (B : Bn mg) (HC : PlainC K CH houseAt) : FnOk P w K mg base CX0 1 f fd nHl (spHl K CF CK CH) := by
  refine F.ok scHl (fun vs H Q E h => ?_) (fun cdv A outer s0 H vs Q E hr h => ?_)
  · obtain ⟨s, root, ks, rfl, _⟩ := h
    rfl
  · obtain ⟨s, root, ks, rfl, ha, k⟩ := h
    refine ⟨_, 
      (pss_one (ps_ret (pe_callB call_len_seq (by rfl) B.len PySem.boot_len (pa_cons (pe_fld (pv 0) rfl) pa_nil)))), ?_⟩
    obtain ⟨dx, tn, tk, dd, df, dl, dr, hs, hn, _⟩ := ha.ex
    rw [show ((ks.length : Nat) : Int) = ((ks.map (·.n)).map V.str).length by rw [List.length_map, List.length_map]] at k
    exact ⟨_, rfl, s, CH, dx, _, _, rfl, hs, HC.cl, HC.no _ (by simp), (lk_h _ _ _ _ _ _ _).2.1, tn, _, rfl, .inr hn, k⟩
abbrev sAm : Stmt := meth 32 22
abbrev nAm : List Str := ["self", "target", "name"]
def admK (ks : List KD) (t : Str) : List Str := (ks.map (·.n)).filter fun n => letB ks t n
def spAm (K : PySem.W.Frag) (CF CK CH : Addr) : Sp := fun vs H Q _ => ∃ (s : Addr) (t root : Str) (ks : List KD), vs = [.ref s, .str t] ∧ HouseAt K CF CK CH H s root ks ∧ (t = "any" ∨ t ∈ ks.map (·.n)) ∧ PyData.strOk t = true ∧ ∀ D H', H D = none → Same H H' → H' D = some (.lst ((admK ks t).map V.str)) → Q (.ref D) H'
theorem scAm : FnScope nAm ["self", "target"] (defScope sAm) := ⟨rfl, rfl, rfl, by decide +kernel, rfl, by decide +kernel, by decide +kernel⟩
theorem ok_Am {f f1 f2 : Addr} {fd fd1 fd2 : FuncData} (F : Fun K "admitted" "House.admitted" sAm f fd) (B : Bn mg) (HC : PlainC K CH houseAt) (gA : ∃ u, mg "ANY" = some u ∧ RelV (.str "any") u) (LT : KMt P w K mg base CH CX0 1 "_lets" nLt (spLt K CF CK CH) f1 fd1)
    (HS : KMt P w K mg base CH CX0 1 "__contains__" nHas (spHas K CF CK CH) f2 fd2) (hasIn : PySem.W.findIn K (.ref CH) "__contains__" = some (some (.ref f2))) (hasFn : PySem.W.isFn K (.ref f2) = true) : FnOk P w K mg base CX0 2 f fd ["self", "target"] (spAm K CF CK CH) := by
  refine F.ok scAm (fun vs H Q E h => ?_) (fun cdv A outer s0 H vs Q E hr h => ?_)
  · obtain ⟨s, t, root, ks, rfl, _⟩ := h
    rfl
  · obtain ⟨s, t, root, ks, rfl, ha, ht, ok, k⟩ := h
    refine ⟨_, 
      (pss_cons (ps_if (PW.pt (pw_and (pt_cmpR op_ne (pv 1) (pe_cn (by rfl) gA) (nomark _)) (pw_and1 (pt_cmpR (op_ownNotIn HS.ok HS.bi pass0 hasIn hasFn (hr.mono (by decide))) (pv 1) (pv 0) (by rfl))))) 
        (pss_one ps_dead) pss_nil)
      (pss_one (ps_ret (pe_lc (own := [("name", 2)]) (g := gName 2) (te := tVar 2) rfl scAm.nd (pi_tup (pe_fld (pv 0) rfl)) (blkOk_by (N := nAm) (sc := defScope sAm) (by decide +kernel)) (fun _ _ _ _ _ => pg_name (i := 2) scAm.nd rfl (Or.inl rfl)) (fun _ _ _ _ _ => pts_one (pt_val (pe_meth (pv 0) HC.cl LT.mt LT.ok (hr.mono (by decide)) LT.bi .nil pass0 (pa_cons (pv 1) (pa_cons (pv 2) pa_nil))))) (fun _ _ _ _ _ => (pv 2)))))), ?_⟩
    obtain ⟨dx, tn, tk, dd, df, dl, dr, hs, hn, _, hd, _⟩ := ha.ex
    have test : ∀ (D : Addr) (x : V) (c : Str) (H1 : Hp) (Rq : Bool → Hp → Prop), c ∈ ks.map (·.n) → Same H H1 → rW H1 x c → (∀ H2, Same H1 H2 → Rq (letB ks t c) H2) →
        (tB (tMeth CH "_lets" (spLt K CF CK CH) [] E0 (tVar 0) (tCons (tVar 1) (tCons (tVar 2) tNil)))) ((List.set (L2.start nAm [V.ref s, V.str t]) 2 none).set 2 (some x)) H1 Rq := by
      rintro D _ c H1 Rq mc s1 rfl kk
      exact ⟨_, rfl, s, dx, _, rfl, s1 _ _ hs, rfl, _, rfl, _, rfl, s, t, c, dx, dd, _, ks, rfl, s1 _ _ hs, (lk_h _ _ _ _ _ _ _).2.2.2.1, hd.same (dK K CF CK) s1, ha.ok.nd, mc, _, rfl, kk _ (Same.refl _)⟩
    have fin : ∀ D, H D = none → ∀ H' ys, Same H H' → H' D = some (.lst ys) → Ev rW H' ys (((ks.map (·.n)).filter fun n => letB ks t n).map id) → Q (.ref D) H' := fun D hD H' ys s1 e ev => by
      rw [List.map_id] at ev
      cases ev_words_eq ev
      exact k D H' hD s1 e
    refine ⟨_, rfl, rfl, _, rfl, ?_⟩
    rw [dec_s]
    by_cases e : t = ("any" : Str)
    · rw [decide_eq_true e]
      refine iteF (iteF ?_)
      refine ⟨_, rfl, s, CH, dx, _, _, rfl, hs, HC.cl, HC.no _ (by simp), (lk_h _ _ _ _ _ _ _).2.1, tn, rfl, ⟨_, hn⟩, fun D hD => lc_sieve mW mW (fun n => letB ks t n) id walk_tup (by rw [List.length_map]; have := ha.ok.n12; omega) (fun H' s9 => s9.sqT hn) hD (ev_words _) (test D) (fun v c H2 Rq _ _ _ r kk => ⟨_, rfl, kk _ _ (Same.refl _) r⟩) (fin D hD)⟩
    · rw [decide_eq_false e]
      refine iteT ⟨_, rfl, _, rfl, s, dx, _, rfl, hs, s, .str t, .str t, root, ks, rfl, ha, .dat (.str _) (shaped_str ok), _, rfl, _, rfl, ?_⟩
      rw [show inHouse ks (.str t) = true from decide_eq_true (ht.resolve_left e)]
      refine iteF ?_
      refine ⟨_, rfl, s, CH, dx, _, _, rfl, hs, HC.cl, HC.no _ (by simp), (lk_h _ _ _ _ _ _ _).2.1, tn, rfl, ⟨_, hn⟩, fun D hD => lc_sieve mW mW (fun n => letB ks t n) id walk_tup (by rw [List.length_map]; have := ha.ok.n12; omega) (fun H' s9 => s9.sqT hn) hD (ev_words _) (test D) (fun v c H2 Rq _ _ _ r kk => ⟨_, rfl, kk _ _ (Same.refl _) r⟩) (fin D hD)⟩
end
end Wh
set_option Elab.async false
set_option linter.all false
set_option maxRecDepth 100000
set_option maxHeartbeats 4000000
namespace Wh
open PySem PySem.Spec PyProof.Rows L2
open Wp hiding Same.refl Same.trans same_new boot_all
open W8 (Ev Rp Kp Mono same_new take_snoc rW rB mW mB ev_words ev_words_eq ev_bools_eq lc_sieve)
/-! ## what a house tells of a kind, or UnknownKind -/
/-- a method that is asked for a kind: ans for one that the house has, else UnknownKind of that value -/
def spM (K : PySem.W.Frag) (CF CK CH CU : Addr) (ans : List KD → KD → Hp → VK → Prop) : Sp := fun vs H Q E => ∃ (s : Addr) (v : V) (d : PyData) (root : Str) (ks : List KD), vs = [.ref s, v] ∧ HouseAt K CF CK CH H s root ks ∧ Dq K H v d ∧
  (∀ x ∈ ks, d = .str x.n → ans ks x H Q) ∧ (inHouse ks d = false → ∀ (H' : Hp) (e : Addr), Same H H' → H e = none → H' e = some (.xd [("name", v)]) → E (.ref CU) (some e) H')
/-- one that the house has, or none -/
theorem house_cases (ks : List KD) (d : PyData) : (∃ x ∈ ks, d = .str x.n) ∨ inHouse ks d = false := by
  cases e : inHouse ks d with
  | false => exact .inr rfl
  | true =>
    left
    cases d with
    | str n =>
      obtain ⟨x, mx, rfl⟩ := List.mem_map.mp (of_decide_eq_true e)
      exact ⟨x, mx, rfl⟩
    | _ => cases e
section
variable {P : Program} {w : World} {K : PySem.W.Frag} {mg : Str → Option Value} {base : Heap} {CF CK CH CU : Addr}
def aKd (K : PySem.W.Frag) (CF CK : Addr) : List KD → KD → Hp → VK → Prop := fun _ x H Q => ∀ u, rK K CF CK H u x → Q u H
theorem ok_Kd2 {f f1 : Addr} {fd fd1 : FuncData} (F : Fun K "kind_named" "House.kind_named" sKd f fd) (HC : PlainC K CH houseAt) (CK0 : KMt P w K mg base CH (L2N.CX P w) 3 "_check" nCk (spCk K CF CK CH CU) f1 fd1) : FnOk P w K mg base (L2N.CX P w) 4 f fd nKd (spM K CF CK CH CU (aKd K CF CK)) := by
  refine fun_okC F scKd (fun vs H Q E h => ?_) (fun cdv A outer s0 H vs Q E hr h => ?_)
  · obtain ⟨s, v, d, root, ks, rfl, _⟩ := h
    rfl
  · obtain ⟨s, v, d, root, ks, rfl, ha, q, k, kE⟩ := h
    have hu := hu_of hr
    refine ⟨_, 
      (pss_cons (ps_expr (pe_meth (pv 0) HC.cl CK0.mt CK0.ok (hr.mono (by decide)) CK0.bi .nil (L2N.passes_call (L2N.takes_of rfl rfl rfl rfl) (fun _ _ _ _ h => h)) (pa_cons (pv 1) pa_nil)))
      (pss_one (ps_ret (pe_dget hu (pe_fld (pv 0) rfl) (pv 1) (fun _ _ => rfl))))), ?_⟩
    obtain ⟨dx, tn, tk, dd, df, dl, dr, hs, _, _, hd, _, _⟩ := ha.ex
    refine ⟨_, rfl, s, dx, _, rfl, hs, rfl, _, rfl, s, v, d, root, ks, rfl, ha, q, fun e => ?_, kE⟩
    obtain ⟨x, mx, rfl⟩ := (house_cases ks d).resolve_right (by rw [e]; exact Bool.noConfusion)
    cases q.str_of
    obtain ⟨u, g, r⟩ := get_kind hd ha.ok.nd mx
    exact ⟨_, rfl, s, CH, dx, _, _, rfl, hs, HC.cl, HC.no _ (by simp), (lk_h _ _ _ _ _ _ _).2.2.2.1, _, rfl, dd, _, rfl, g, k x mx rfl u r⟩
def aFo (K : PySem.W.Frag) (CF : Addr) : List KD → KD → Hp → VK → Prop := fun ks x H Q => ∀ D H' us, H D = none → Same H H' → H' D = some (.lst us) → Ev (rF K CF) H' us (allF ks x) → Q (.ref D) H'
theorem ok_Fo2 {f f1 : Addr} {fd fd1 : FuncData} (F : Fun K "fields_of" "House.fields_of" sFo f fd) (B : Bn mg) (HC : PlainC K CH houseAt) (CK0 : KMt P w K mg base CH (L2N.CX P w) 3 "_check" nCk (spCk K CF CK CH CU) f1 fd1) : FnOk P w K mg base (L2N.CX P w) 4 f fd nFo (spM K CF CK CH CU (aFo K CF)) := by
  refine fun_okC F scFo (fun vs H Q E h => ?_) (fun cdv A outer s0 H vs Q E hr h => ?_)
  · obtain ⟨s, v, d, root, ks, rfl, _⟩ := h
    rfl
  · obtain ⟨s, v, d, root, ks, rfl, ha, q, k, kE⟩ := h
    have hu := hu_of hr
    refine ⟨_, 
      (pss_cons (ps_expr (pe_meth (pv 0) HC.cl CK0.mt CK0.ok (hr.mono (by decide)) CK0.bi .nil (L2N.passes_call (L2N.takes_of rfl rfl rfl rfl) (fun _ _ _ _ h => h)) (pa_cons (pv 1) pa_nil)))
      (pss_one (ps_ret (pe_callTy call_list_of (by rfl) B.list PyProof.Rows.boot_list (pa_cons (pe_dget hu (pe_fld (pv 0) rfl) (pv 1) (fun _ _ => rfl)) pa_nil))))), ?_⟩
    obtain ⟨dx, tn, tk, dd, df, dl, dr, hs, _, _, _, hf, _⟩ := ha.ex
    refine ⟨_, rfl, s, dx, _, rfl, hs, rfl, _, rfl, s, v, d, root, ks, rfl, ha, q, fun e => ?_, kE⟩
    obtain ⟨x, mx, rfl⟩ := (house_cases ks d).resolve_right (by rw [e]; exact Bool.noConfusion)
    cases q.str_of
    obtain ⟨t, us, g, hus, evu⟩ := get_allF hf ha.ok.nd mx
    exact ⟨_, rfl, s, CH, dx, _, _, rfl, hs, HC.cl, HC.no _ (by simp), (lk_h _ _ _ _ _ _ _).2.2.2.2.1, _, rfl, df, _, rfl, g, t, us, rfl, .inr hus, fun D hD => k x mx rfl D _ us hD (same_new hD) upd_same (evu.same (mF K CF) (same_new hD))⟩
abbrev sLh : Stmt := meth 32 15
abbrev sIz : Stmt := meth 32 16
abbrev sIr : Stmt := meth 32 17
abbrev sKo : Stmt := meth 32 20
def aV (f : KD → V) : List KD → KD → Hp → VK → Prop := fun _ x H Q => Q (f x) H
theorem scLh : FnScope nKd nKd (defScope sLh) := ⟨rfl, rfl, rfl, by decide +kernel, rfl, by decide +kernel, by decide +kernel⟩
theorem scIz : FnScope nKd nKd (defScope sIz) := ⟨rfl, rfl, rfl, by decide +kernel, rfl, by decide +kernel, by decide +kernel⟩
theorem scIr : FnScope nKd nKd (defScope sIr) := ⟨rfl, rfl, rfl, by decide +kernel, rfl, by decide +kernel, by decide +kernel⟩
theorem scKo : FnScope nKd nKd (defScope sKo) := ⟨rfl, rfl, rfl, by decide +kernel, rfl, by decide +kernel, by decide +kernel⟩
theorem ok_Lh {f f1 : Addr} {fd fd1 : FuncData} (F : Fun K "lets_heirs" "House.lets_heirs" sLh f fd) (HC : PlainC K CH houseAt) (C : PlainC K CK ["name", "fields", "base", "frozen", "heirs", "key", "registered"]) (KD_ : KMt P w K mg base CH (L2N.CX P w) 4 "kind_named" nKd (spM K CF CK CH CU (aKd K CF CK)) f1 fd1) : FnOk P w K mg base (L2N.CX P w) 5 f fd nKd (spM K CF CK CH CU (aV fun x => .bl x.h)) := by
  refine fun_okC F scLh (fun vs H Q E h => ?_) (fun cdv A outer s0 H vs Q E hr h => ?_)
  · obtain ⟨s, v, d, root, ks, rfl, _⟩ := h
    rfl
  · obtain ⟨s, v, d, root, ks, rfl, ha, q, k, kE⟩ := h
    have hu := hu_of hr
    refine ⟨_, 
      (pss_one (ps_ret (pe_fld (pe_meth (pv 0) HC.cl KD_.mt KD_.ok (hr.mono (by decide)) KD_.bi .nil (L2N.passes_call (L2N.takes_of rfl rfl rfl rfl) (fun _ _ _ _ h => h)) (pa_cons (pv 1) pa_nil)) rfl))), ?_⟩
    obtain ⟨dx, tn, tk, dd, df, dl, dr, hs, _, _, hd, _, _⟩ := ha.ex
    refine ⟨_, rfl, s, dx, _, rfl, hs, rfl, _, rfl, s, v, d, root, ks, rfl, ha, q, fun x mx e u r => ?_, kE⟩
    obtain ⟨a, dy, tf, rfl, h2, _⟩ := r
    exact ⟨a, CK, dy, _, _, rfl, h2, C.cl, C.no _ (by simp), (lk_ks _ _ _ _ _ _ _).2.2.2.2.1, k x mx e⟩
theorem ok_Iz {f f1 : Addr} {fd fd1 : FuncData} (F : Fun K "is_frozen" "House.is_frozen" sIz f fd) (HC : PlainC K CH houseAt) (C : PlainC K CK ["name", "fields", "base", "frozen", "heirs", "key", "registered"]) (KD_ : KMt P w K mg base CH (L2N.CX P w) 4 "kind_named" nKd (spM K CF CK CH CU (aKd K CF CK)) f1 fd1) : FnOk P w K mg base (L2N.CX P w) 5 f fd nKd (spM K CF CK CH CU (aV fun x => .bl x.f)) := by
  refine fun_okC F scIz (fun vs H Q E h => ?_) (fun cdv A outer s0 H vs Q E hr h => ?_)
  · obtain ⟨s, v, d, root, ks, rfl, _⟩ := h
    rfl
  · obtain ⟨s, v, d, root, ks, rfl, ha, q, k, kE⟩ := h
    have hu := hu_of hr
    refine ⟨_, 
      (pss_one (ps_ret (pe_fld (pe_meth (pv 0) HC.cl KD_.mt KD_.ok (hr.mono (by decide)) KD_.bi .nil (L2N.passes_call (L2N.takes_of rfl rfl rfl rfl) (fun _ _ _ _ h => h)) (pa_cons (pv 1) pa_nil)) rfl))), ?_⟩
    obtain ⟨dx, tn, tk, dd, df, dl, dr, hs, _, _, hd, _, _⟩ := ha.ex
    refine ⟨_, rfl, s, dx, _, rfl, hs, rfl, _, rfl, s, v, d, root, ks, rfl, ha, q, fun x mx e u r => ?_, kE⟩
    obtain ⟨a, dy, tf, rfl, h2, _⟩ := r
    exact ⟨a, CK, dy, _, _, rfl, h2, C.cl, C.no _ (by simp), (lk_ks _ _ _ _ _ _ _).2.2.2.1, k x mx e⟩
theorem ok_Ir {f f1 : Addr} {fd fd1 : FuncData} (F : Fun K "is_registered" "House.is_registered" sIr f fd) (HC : PlainC K CH houseAt) (C : PlainC K CK ["name", "fields", "base", "frozen", "heirs", "key", "registered"]) (KD_ : KMt P w K mg base CH (L2N.CX P w) 4 "kind_named" nKd (spM K CF CK CH CU (aKd K CF CK)) f1 fd1) : FnOk P w K mg base (L2N.CX P w) 5 f fd nKd (spM K CF CK CH CU (aV fun x => .bl x.r)) := by
  refine fun_okC F scIr (fun vs H Q E h => ?_) (fun cdv A outer s0 H vs Q E hr h => ?_)
  · obtain ⟨s, v, d, root, ks, rfl, _⟩ := h
    rfl
  · obtain ⟨s, v, d, root, ks, rfl, ha, q, k, kE⟩ := h
    have hu := hu_of hr
    refine ⟨_, 
      (pss_one (ps_ret (pe_fld (pe_meth (pv 0) HC.cl KD_.mt KD_.ok (hr.mono (by decide)) KD_.bi .nil (L2N.passes_call (L2N.takes_of rfl rfl rfl rfl) (fun _ _ _ _ h => h)) (pa_cons (pv 1) pa_nil)) rfl))), ?_⟩
    obtain ⟨dx, tn, tk, dd, df, dl, dr, hs, _, _, hd, _, _⟩ := ha.ex
    refine ⟨_, rfl, s, dx, _, rfl, hs, rfl, _, rfl, s, v, d, root, ks, rfl, ha, q, fun x mx e u r => ?_, kE⟩
    obtain ⟨a, dy, tf, rfl, h2, _⟩ := r
    exact ⟨a, CK, dy, _, _, rfl, h2, C.cl, C.no _ (by simp), (lk_ks _ _ _ _ _ _ _).2.2.2.2.2.2, k x mx e⟩
theorem ok_Ko {f f1 : Addr} {fd fd1 : FuncData} (F : Fun K "key_of" "House.key_of" sKo f fd) (HC : PlainC K CH houseAt) (C : PlainC K CK ["name", "fields", "base", "frozen", "heirs", "key", "registered"]) (KD_ : KMt P w K mg base CH (L2N.CX P w) 4 "kind_named" nKd (spM K CF CK CH CU (aKd K CF CK)) f1 fd1) : FnOk P w K mg base (L2N.CX P w) 5 f fd nKd (spM K CF CK CH CU (aV fun x => tv x.k)) := by
  refine fun_okC F scKo (fun vs H Q E h => ?_) (fun cdv A outer s0 H vs Q E hr h => ?_)
  · obtain ⟨s, v, d, root, ks, rfl, _⟩ := h
    rfl
  · obtain ⟨s, v, d, root, ks, rfl, ha, q, k, kE⟩ := h
    have hu := hu_of hr
    refine ⟨_, 
      (pss_one (ps_ret (pe_fld (pe_meth (pv 0) HC.cl KD_.mt KD_.ok (hr.mono (by decide)) KD_.bi .nil (L2N.passes_call (L2N.takes_of rfl rfl rfl rfl) (fun _ _ _ _ h => h)) (pa_cons (pv 1) pa_nil)) rfl))), ?_⟩
    obtain ⟨dx, tn, tk, dd, df, dl, dr, hs, _, _, hd, _, _⟩ := ha.ex
    refine ⟨_, rfl, s, dx, _, rfl, hs, rfl, _, rfl, s, v, d, root, ks, rfl, ha, q, fun x mx e u r => ?_, kE⟩
    obtain ⟨a, dy, tf, rfl, h2, _⟩ := r
    exact ⟨a, CK, dy, _, _, rfl, h2, C.cl, C.no _ (by simp), (lk_ks _ _ _ _ _ _ _).2.2.2.2.2.1, k x mx e⟩
end
end Wh
set_option Elab.async false
set_option linter.all false
set_option maxRecDepth 100000
set_option maxHeartbeats 4000000
namespace Wh
open PySem PySem.Spec PyProof.Rows L2
open Wp hiding Same.refl Same.trans same_new boot_all
open W8 (Ev Rp Kp Mono same_new take_snoc rW rB mW mB ev_words ev_words_eq ev_bools_eq lc_sieve)
/-! ## the lists that a house tells of a kind, or UnknownKind -/
def aWs (f : List KD → KD → List Str) : List KD → KD → Hp → VK → Prop := fun ks x H Q => ∀ D H', H D = none → Same H H' → H' D = some (.lst ((f ks x).map V.str)) → Q (.ref D) H'
def marksK (ks : List KD) (x : KD) : List Str := ((allF ks x).filter fun g => decide (g.m = ("mark" : Str))).map (·.n)
def slotsK (ks : List KD) (x : KD) : List Str := ((allF ks x).filter fun g => !decide (g.m = ("mark" : Str))).map (·.n)
section
variable {P : Program} {w : World} {K : PySem.W.Frag} {mg : Str → Option Value} {base : Heap} {CF CK CH CU : Addr}
theorem rd_fld {H2 : Hp} {b : Addr} {g : FV} (h : rF K CF H2 (.ref b) g) : ∃ dy tw, H2 b = some (.ins CF dy (fsF (.str g.n) (.str g.m) (tv g.t) (.int g.d) tw)) := by
  obtain ⟨b2, e2, ⟨dy, tw, hb, _⟩, _⟩ := h
  cases e2
  exact ⟨dy, tw, hb⟩
abbrev sMo : Stmt := meth 32 13
abbrev nMo : List Str := ["self", "kind", "field"]
theorem scMo : FnScope nMo ["self", "kind"] (defScope sMo) := ⟨rfl, rfl, rfl, by decide +kernel, rfl, by decide +kernel, by decide +kernel⟩
theorem ok_Mo {f f1 : Addr} {fd fd1 : FuncData} (F : Fun K "marks_of" "House.marks_of" sMo f fd) (B : Bn mg) (HC : PlainC K CH houseAt) (CFc : PlainC K CF ["name", "mode", "target", "default", "was"]) (FO : KMt P w K mg base CH (L2N.CX P w) 4 "fields_of" nFo (spM K CF CK CH CU (aFo K CF)) f1 fd1) : FnOk P w K mg base (L2N.CX P w) 5 f fd ["self", "kind"] (spM K CF CK CH CU (aWs marksK)) := by
  refine fun_okC F scMo (fun vs H Q E h => ?_) (fun cdv A outer s0 H vs Q E hr h => ?_)
  · obtain ⟨s, v, d, root, ks, rfl, _⟩ := h
    rfl
  · obtain ⟨s, v, d, root, ks, rfl, ha, q, k, kE⟩ := h
    have hu := hu_of hr
    refine ⟨_, 
      (pss_one (ps_ret (pe_lc (own := [("field", 2)]) (g := gName 2) (te := (tFld K (tVar 2) "name")) (tt := (tTest (tOp rEq (tFld K (tVar 2) "mode") (tC (.str "mark"))))) rfl scMo.nd (pi_list (pe_meth (pv 0) HC.cl FO.mt FO.ok (hr.mono (by decide)) FO.bi .nil (L2N.passes_call (L2N.takes_of rfl rfl rfl rfl) (fun _ _ _ _ h => h)) (pa_cons (pv 1) pa_nil))) (blkOk_by (N := nMo) (sc := defScope sMo) (by decide +kernel)) (fun _ _ _ _ _ => pg_name (i := 2) scMo.nd rfl (Or.inl rfl)) (fun _ _ _ _ _ => pts_one (pt_cmpR op_eq (pe_fld (pv 2) rfl) pe_str (nomark _))) (fun _ _ _ _ _ => (pe_fld (pv 2) rfl))))), ?_⟩
    obtain ⟨dx, tn, tk, dd, df, dl, dr, hs, _, _, hd, _, _⟩ := ha.ex
    refine ⟨_, rfl, s, dx, _, rfl, hs, rfl, _, rfl, s, v, d, root, ks, rfl, ha, q, fun x mx e D1 H1 us n1 s1 h1 ev => ?_, kE⟩
    refine ⟨D1, rfl, ⟨us, SqL.of h1⟩, fun D hD => ?_⟩
    refine lc_sieve (mF K CF) mW (fun g => decide (g.m = ("mark" : Str))) (fun g => g.n) walk_list (by have := ha.ok.few mx; omega) (fun H' s => SqL.of (s _ _ h1)) hD ev ?_ ?_ ?_
    · rintro u g H2 Rq _ s2 r kk
      obtain ⟨b, rfl, _⟩ := id r
      obtain ⟨dy, tw, hb⟩ := rd_fld r
      refine ⟨_, rfl, b, CF, dy, _, _, rfl, hb, CFc.cl, CFc.no _ (by simp), (lk_fs _ _ _ _ _).2.2.2.1, rfl, _, rfl, ?_⟩
      rw [dec_s]
      exact kk _ (Same.refl _)
    · rintro u g H2 Rq _ _ _ r kk
      obtain ⟨b, rfl, _⟩ := id r
      obtain ⟨dy, tw, hb⟩ := rd_fld r
      exact ⟨_, rfl, b, CF, dy, _, _, rfl, hb, CFc.cl, CFc.no _ (by simp), (lk_fs _ _ _ _ _).2.2.2.2, kk _ _ (Same.refl _) rfl⟩
    intro H2 zs s2 hz ez
    have := ev_words_eq ez
    subst this
    exact k x mx e D H2 (by
      cases eD : H D with
      | none => rfl
      | some o =>
        rw [s1 _ _ eD] at hD
        cases hD) (s1.trans s2) hz
abbrev sSo : Stmt := meth 32 14
abbrev nSo : List Str := ["self", "kind", "field"]
theorem scSo : FnScope nSo ["self", "kind"] (defScope sSo) := ⟨rfl, rfl, rfl, by decide +kernel, rfl, by decide +kernel, by decide +kernel⟩
theorem ok_So {f f1 : Addr} {fd fd1 : FuncData} (F : Fun K "slots_of" "House.slots_of" sSo f fd) (B : Bn mg) (HC : PlainC K CH houseAt) (CFc : PlainC K CF ["name", "mode", "target", "default", "was"]) (FO : KMt P w K mg base CH (L2N.CX P w) 4 "fields_of" nFo (spM K CF CK CH CU (aFo K CF)) f1 fd1) : FnOk P w K mg base (L2N.CX P w) 5 f fd ["self", "kind"] (spM K CF CK CH CU (aWs slotsK)) := by
  refine fun_okC F scSo (fun vs H Q E h => ?_) (fun cdv A outer s0 H vs Q E hr h => ?_)
  · obtain ⟨s, v, d, root, ks, rfl, _⟩ := h
    rfl
  · obtain ⟨s, v, d, root, ks, rfl, ha, q, k, kE⟩ := h
    have hu := hu_of hr
    refine ⟨_, 
      (pss_one (ps_ret (pe_lc (own := [("field", 2)]) (g := gName 2) (te := (tFld K (tVar 2) "name")) (tt := (tTest (tOp rNe (tFld K (tVar 2) "mode") (tC (.str "mark"))))) rfl scSo.nd (pi_list (pe_meth (pv 0) HC.cl FO.mt FO.ok (hr.mono (by decide)) FO.bi .nil (L2N.passes_call (L2N.takes_of rfl rfl rfl rfl) (fun _ _ _ _ h => h)) (pa_cons (pv 1) pa_nil))) (blkOk_by (N := nSo) (sc := defScope sSo) (by decide +kernel)) (fun _ _ _ _ _ => pg_name (i := 2) scSo.nd rfl (Or.inl rfl)) (fun _ _ _ _ _ => pts_one (pt_cmpR op_ne (pe_fld (pv 2) rfl) pe_str (nomark _))) (fun _ _ _ _ _ => (pe_fld (pv 2) rfl))))), ?_⟩
    obtain ⟨dx, tn, tk, dd, df, dl, dr, hs, _, _, hd, _, _⟩ := ha.ex
    refine ⟨_, rfl, s, dx, _, rfl, hs, rfl, _, rfl, s, v, d, root, ks, rfl, ha, q, fun x mx e D1 H1 us n1 s1 h1 ev => ?_, kE⟩
    refine ⟨D1, rfl, ⟨us, SqL.of h1⟩, fun D hD => ?_⟩
    refine lc_sieve (mF K CF) mW (fun g => !decide (g.m = ("mark" : Str))) (fun g => g.n) walk_list (by have := ha.ok.few mx; omega) (fun H' s => SqL.of (s _ _ h1)) hD ev ?_ ?_ ?_
    · rintro u g H2 Rq _ s2 r kk
      obtain ⟨b, rfl, _⟩ := id r
      obtain ⟨dy, tw, hb⟩ := rd_fld r
      refine ⟨_, rfl, b, CF, dy, _, _, rfl, hb, CFc.cl, CFc.no _ (by simp), (lk_fs _ _ _ _ _).2.2.2.1, rfl, _, rfl, ?_⟩
      rw [dec_s]
      exact kk _ (Same.refl _)
    · rintro u g H2 Rq _ _ _ r kk
      obtain ⟨b, rfl, _⟩ := id r
      obtain ⟨dy, tw, hb⟩ := rd_fld r
      exact ⟨_, rfl, b, CF, dy, _, _, rfl, hb, CFc.cl, CFc.no _ (by simp), (lk_fs _ _ _ _ _).2.2.2.2, kk _ _ (Same.refl _) rfl⟩
    intro H2 zs s2 hz ez
    have := ev_words_eq ez
    subst this
    exact k x mx e D H2 (by
      cases eD : H D with
      | none => rfl
      | some o =>
        rw [s1 _ _ eD] at hD
        cases hD) (s1.trans s2) hz
abbrev sIl : Stmt := meth 32 18
abbrev nIl : List Str := ["self", "kind"]
theorem scIl : FnScope nIl ["self", "kind"] (defScope sIl) := ⟨rfl, rfl, rfl, by decide +kernel, rfl, by decide +kernel, by decide +kernel⟩
def aB (f : List KD → KD → Bool) : List KD → KD → Hp → VK → Prop := fun ks x H Q => ∀ H', Same H H' → Q (.bl (f ks x)) H'
theorem ok_Il {f f1 : Addr} {fd fd1 : FuncData} (F : Fun K "is_leaf" "House.is_leaf" sIl f fd) (HC : PlainC K CH houseAt) (SO : KMt P w K mg base CH (L2N.CX P w) 5 "slots_of" ["self", "kind"] (spM K CF CK CH CU (aWs slotsK)) f1 fd1) : FnOk P w K mg base (L2N.CX P w) 6 f fd ["self", "kind"] (spM K CF CK CH CU (aB fun ks x => (slotsK ks x).isEmpty)) := by
  refine fun_okC F scIl (fun vs H Q E h => ?_) (fun cdv A outer s0 H vs Q E hr h => ?_)
  · obtain ⟨s, v, d, root, ks, rfl, _⟩ := h
    rfl
  · obtain ⟨s, v, d, root, ks, rfl, ha, q, k, kE⟩ := h
    refine ⟨_, 
      (pss_one (ps_ret (pe_notT (pe_meth (pv 0) HC.cl SO.mt SO.ok (hr.mono (by decide)) SO.bi .nil (L2N.passes_call (L2N.takes_of rfl rfl rfl rfl) (fun _ _ _ _ h => h)) (pa_cons (pv 1) pa_nil))))), ?_⟩
    obtain ⟨dx, tn, tk, dd, df, dl, dr, hs, _, _, hd, _, _⟩ := ha.ex
    refine ⟨_, rfl, s, dx, _, rfl, hs, rfl, _, rfl, s, v, d, root, ks, rfl, ha, q, fun x mx e D H1 n1 s1 h1 => ?_, kE⟩
    refine ⟨!(slotsK ks x).isEmpty, .inl ⟨_, SqL.of h1, ?_⟩, ?_⟩
    · cases slotsK ks x <;> rfl
    · have := k x mx e H1 s1
      rw [Bool.not_not]
      exact this
abbrev sLs : Stmt := meth 32 24
abbrev nLs : List Str := ["self", "kind"]
theorem scLs : FnScope nLs ["self", "kind"] (defScope sLs) := ⟨rfl, rfl, rfl, by decide +kernel, rfl, by decide +kernel, by decide +kernel⟩
abbrev sLf : Stmt := meth 32 25
theorem scLf : FnScope nLs ["self", "kind"] (defScope sLf) := ⟨rfl, rfl, rfl, by decide +kernel, rfl, by decide +kernel, by decide +kernel⟩
theorem ok_Ls {f f1 : Addr} {fd fd1 : FuncData} (F : Fun K "leads" "House.leads" sLs f fd) (B : Bn mg) (HC : PlainC K CH houseAt) (CK0 : KMt P w K mg base CH (L2N.CX P w) 3 "_check" nCk (spCk K CF CK CH CU) f1 fd1) : FnOk P w K mg base (L2N.CX P w) 4 f fd ["self", "kind"] (spM K CF CK CH CU (aWs fun ks x => leadOf ks x.n)) := by
  refine fun_okC F scLs (fun vs H Q E h => ?_) (fun cdv A outer s0 H vs Q E hr h => ?_)
  · obtain ⟨s, v, d, root, ks, rfl, _⟩ := h
    rfl
  · obtain ⟨s, v, d, root, ks, rfl, ha, q, k, kE⟩ := h
    have hu := hu_of hr
    refine ⟨_, 
      (pss_cons (ps_expr (pe_meth (pv 0) HC.cl CK0.mt CK0.ok (hr.mono (by decide)) CK0.bi .nil (L2N.passes_call (L2N.takes_of rfl rfl rfl rfl) (fun _ _ _ _ h => h)) (pa_cons (pv 1) pa_nil)))
      (pss_one (ps_ret (pe_callTy call_list_of (by rfl) B.list PyProof.Rows.boot_list (pa_cons (pe_dget hu (pe_fld (pv 0) rfl) (pv 1) (fun _ _ => rfl)) pa_nil))))), ?_⟩
    obtain ⟨dx, tn, tk, dd, df, dl, dr, hs, _, _, _, _, hl, _⟩ := ha.ex
    refine ⟨_, rfl, s, dx, _, rfl, hs, rfl, _, rfl, s, v, d, root, ks, rfl, ha, q, fun e => ?_, kE⟩
    obtain ⟨x, mx, rfl⟩ := (house_cases ks d).resolve_right (by rw [e]; exact Bool.noConfusion)
    cases q.str_of
    obtain ⟨_, _, _, hn2, hz2, ⟨l0, rfl, h0⟩, g0⟩ := hl.get (List.mem_map_of_mem (f := fun z => KD.n z) mx)
    rw [List.getElem?_map, hn2] at hz2
    obtain rfl := Option.some.inj hz2
    exact ⟨_, rfl, s, CH, dx, _, _, rfl, hs, HC.cl, HC.no _ (by simp), (lk_h _ _ _ _ _ _ _).2.2.2.2.2.1, _, rfl, dl, _, rfl, g0, l0, _, rfl, .inl (SqL.of h0), fun D hD => k x mx rfl D _ hD (same_new hD) upd_same⟩
theorem ok_Lf {f f1 : Addr} {fd fd1 : FuncData} (F : Fun K "leads_far" "House.leads_far" sLf f fd) (B : Bn mg) (HC : PlainC K CH houseAt) (CK0 : KMt P w K mg base CH (L2N.CX P w) 3 "_check" nCk (spCk K CF CK CH CU) f1 fd1) : FnOk P w K mg base (L2N.CX P w) 4 f fd ["self", "kind"] (spM K CF CK CH CU (aWs fun ks x => farK ks x.n)) := by
  refine fun_okC F scLf (fun vs H Q E h => ?_) (fun cdv A outer s0 H vs Q E hr h => ?_)
  · obtain ⟨s, v, d, root, ks, rfl, _⟩ := h
    rfl
  · obtain ⟨s, v, d, root, ks, rfl, ha, q, k, kE⟩ := h
    have hu := hu_of hr
    refine ⟨_, 
      (pss_cons (ps_expr (pe_meth (pv 0) HC.cl CK0.mt CK0.ok (hr.mono (by decide)) CK0.bi .nil (L2N.passes_call (L2N.takes_of rfl rfl rfl rfl) (fun _ _ _ _ h => h)) (pa_cons (pv 1) pa_nil)))
      (pss_one (ps_ret (pe_callTy call_list_of (by rfl) B.list PyProof.Rows.boot_list (pa_cons (pe_dget hu (pe_fld (pv 0) rfl) (pv 1) (fun _ _ => rfl)) pa_nil))))), ?_⟩
    obtain ⟨dx, tn, tk, dd, df, dl, dr, hs, _, _, _, _, _, hl⟩ := ha.ex
    refine ⟨_, rfl, s, dx, _, rfl, hs, rfl, _, rfl, s, v, d, root, ks, rfl, ha, q, fun e => ?_, kE⟩
    obtain ⟨x, mx, rfl⟩ := (house_cases ks d).resolve_right (by rw [e]; exact Bool.noConfusion)
    cases q.str_of
    obtain ⟨_, _, _, hn2, hz2, ⟨l0, rfl, h0⟩, g0⟩ := hl.get (List.mem_map_of_mem (f := fun z => KD.n z) mx)
    rw [List.getElem?_map, hn2] at hz2
    obtain rfl := Option.some.inj hz2
    exact ⟨_, rfl, s, CH, dx, _, _, rfl, hs, HC.cl, HC.no _ (by simp), (lk_h _ _ _ _ _ _ _).2.2.2.2.2.2, _, rfl, dr, _, rfl, g0, l0, _, rfl, .inl (SqL.of h0), fun D hD => k x mx rfl D _ hD (same_new hD) upd_same⟩
end
end Wh
set_option Elab.async false
set_option linter.all false
set_option maxRecDepth 100000
set_option maxHeartbeats 4000000
/-! A dict beside a text by !=, and a text beside any small data. -/
namespace Wp
open PySem PySem.Spec PyProof.Rows L2
open PySem.SeqAt AutoSeq1 MeetsSeq MeetsSeq2 MeetsSeq3 SeqRoads2
section
variable {prog : Program} {w : World} {A : Around} {s : Shared} {d : Addr} {o : Obj}
theorem dictS_noN {z : Str} {t : Tok} {E : Value → Shared → Prop} {Q : Value → Shared → Prop} (ho : s.heap.get? d = some o) (hc : o.cls = .type "dict") (q : Q .notImplemented s) :
    wpAny (model prog w) A (call (.builtin "dict.__ne__") [.ref d, .str z t]) Q E s := by
  have ty : s.TypeIs (.ref d) "dict" := ⟨o, ho, hc⟩
  refine wpAny_call_entry PySem.F.slot_dict_ne ty PySem.F.entry_dict_ne ?_ (PySem.F.args_dict_ne_2 _ _)
  show wpAny _ _ (Builtin.Dict.dictSlotArgs "__ne__" ⟨[.ref d, .str z t], []⟩ >>= _) _ _ s
  apply wpAny_bind
  unfold Builtin.Dict.dictSlotArgs
  apply wpAny_bind
  apply wpAny_notOrdered_dict ty
  show wpAny _ _ (pure (Value.ref d, Value.str z t)) _ _ s
  apply wpAny_pure
  apply wpAny_bind
  refine wpAny_isInstance (T := "str") (typeIs_str s z t) subSD ?_
  simp only [Bool.not_false, if_true]
  exact wpAny_bind (wpAny_rule (wpAny_pure ⟨_, rfl, q⟩))
theorem strD_noN {z : Str} {t : Tok} {E : Value → Shared → Prop} {Q : Value → Shared → Prop} {es : Array DictEntry} {ep : Nat} (ho : s.heap.get? d = some o) (hd : o.data = .dict es ep) (q : Q .notImplemented s) :
    wpAny (model prog w) A (call (.builtin "str.__ne__") [.str z t, .ref d]) Q E s := by
  refine wpAny_call_entry PySem.F.slot_str_ne (typeIs_str s z t) PySem.F.entry_str_ne ?_ (PySem.F.args_str_ne_2 _ _)
  obtain ⟨hp, g, dr, tk, os⟩ := s
  wp_walk using wpAny_load ho
  rw [hd]
  wp_walk
  exact ⟨_, rfl, q⟩
theorem rcn_dictTxt {Q : Value → Shared → Prop} {E : Value → Shared → Prop} {es : Array DictEntry} {ep : Nat} (z : Str) (t : Tok) (ho : s.heap.get? d = some o) (hc : o.cls = .type "dict") (hd : o.data = .dict es ep) (hu : A.units < cLine) (h : Q (.bool true) s) : wpAny (model prog w) A (richCompare .NotEq (.ref d) (.str z t)) Q E s :=
  rc_ne_decline_or (k := false) ⟨o, ho, hc⟩ (typeIs_str s z t) (by decide) subSD PySem.F.slot_dict_ne PySem.F.slot_str_ne_refl (fun _ q => dictS_noN ho hc q) (fun _ q => strD_noN ho hd q) (fun _ q => wpAny_of_eq (rfl : isSame (.ref d) (.str z t) = pure false) q) (.inr hu) h
end
section
variable {X : Cx}
/-- x != 'text' -/
theorem op_neTxt (hu : X.A.units + 64 < cLine) : OpR X (compareOp .NotEq) (rEqTxt true X.K) := by
  rintro pins s σ H x y v u Q I rx ry ⟨d, z, rfl, hz, q, k⟩
  cases q with
  | dat q sh =>
    refine op_neD hu pins s σ H x (.str z) v u Q I rx ry ⟨d, .str z, q, .str z, sh, hz, ?_⟩
    rw [eqv_txt]
    exact k
  | dct h =>
    cases rx
    obtain ⟨t, rfl⟩ := ry
    obtain ⟨o, es, ep, ho, hc, hd, _⟩ := dict_obj I h
    show wpAny _ _ (richCompare .NotEq _ _) _ _ _
    exact rcn_dictTxt z t ho hc hd (by omega) ⟨.bl true, H, I, rfl, k⟩
/-- 'text' == x -/
def rTxtEq (K : PySem.W.Frag) : R2 := fun x y H Q => ∃ (d : PyData) (z : Str), x = .str z ∧ SeqAt.shaped (.str z) = true ∧ Dq K H y d ∧ Q (.bl (isTxt d z)) H
theorem op_txtEq (hu : X.A.units + 64 < cLine) : OpR X (compareOp .Eq) (rTxtEq X.K) := by
  rintro pins s σ H x y v u Q I rx ry ⟨d, z, rfl, hz, q, k⟩
  cases q with
  | dat q sh =>
    refine op_eqD hu pins s σ H (.str z) y v u Q I rx ry ⟨.str z, d, .str z, q, hz, sh, ?_⟩
    rw [txt_eqv]
    exact k
  | dct h =>
    cases ry
    obtain ⟨t, rfl⟩ := rx
    obtain ⟨o, es, ep, ho, hc, hd, _⟩ := dict_obj I h
    show wpAny _ _ (richCompare .Eq _ _) _ _ _
    exact rc_txtDict z t ho hc hd (by omega) _ _ _ _ ⟨.bl false, H, I, rfl, k⟩
end
end Wp
set_option Elab.async false
set_option linter.all false
set_option maxRecDepth 100000
set_option maxHeartbeats 4000000
namespace Wh
open PySem PySem.Spec PyProof.Rows L2
open Wp hiding Same.refl Same.trans same_new boot_all
open W8 (Ev Rp Kp Mono same_new take_snoc rW rB mW mB ev_words ev_words_eq ev_bools_eq lc_sieve)
/-! ## movable, heirs, admitted: or UnknownKind -/
def movK (ks : List KD) (x : KD) : Bool := !x.f && ((allF ks x).map fun g => !decide (V.str g.n = tv x.k)).any id
def heirsK (ks : List KD) (x : KD) : List Str := (ks.map (·.n)).filter fun n => decide (tv (baseOf ks n) = V.str x.n)
section
variable {P : Program} {w : World} {K : PySem.W.Frag} {mg : Str → Option Value} {base : Heap} {CF CK CH CU : Addr}
abbrev sIm : Stmt := meth 32 19
abbrev nIm : List Str := ["self", "kind", "field"]
theorem scIm : FnScope nIm ["self", "kind"] (defScope sIm) := ⟨rfl, rfl, rfl, by decide +kernel, rfl, by decide +kernel, by decide +kernel⟩
theorem ok_Im {f f1 f2 : Addr} {fd fd1 fd2 : FuncData} (F : Fun K "is_movable" "House.is_movable" sIm f fd) (an : mg "any" = none) (HC : PlainC K CH houseAt) (CFc : PlainC K CF ["name", "mode", "target", "default", "was"]) (IZ : KMt P w K mg base CH (L2N.CX P w) 5 "is_frozen" nKd (spM K CF CK CH CU (aV fun x => .bl x.f)) f1 fd1)
    (KO : KMt P w K mg base CH (L2N.CX P w) 5 "key_of" nKd (spM K CF CK CH CU (aV fun x => tv x.k)) f2 fd2) : FnOk P w K mg base (L2N.CX P w) 6 f fd ["self", "kind"] (spM K CF CK CH CU (aB movK)) := by
  refine fun_okC F scIm (fun vs H Q E h => ?_) (fun cdv A outer s0 H vs Q E hr h => ?_)
  · obtain ⟨s, v, d, root, ks, rfl, _⟩ := h
    rfl
  · obtain ⟨s, v, d, root, ks, rfl, ha, q, k, kE⟩ := h
    have hu := hu_of hr
    refine ⟨_, 
      (pss_cons (ps_if (pt_val (pe_meth (pv 0) HC.cl IZ.mt IZ.ok (hr.mono (by decide)) IZ.bi .nil (L2N.passes_call (L2N.takes_of rfl rfl rfl rfl) (fun _ _ _ _ h => h)) (pa_cons (pv 1) pa_nil))) 
        (pss_one (ps_ret pe_bl)) pss_nil)
      (pss_one (ps_ret (pe_callB (cr_any rfl) (by rfl) an boot_any (pa_cons (pe_lc (own := [("field", 2)]) (g := gName 2) (tt := tYes) (te := tOp rNe (tFld K (tVar 2) "name") (tMeth CH "key_of" (spM K CF CK CH CU (aV fun x => tv x.k)) [] E0 (tVar 0) (tCons (tVar 1) tNil))) rfl scIm.nd (pi_tup (pe_dget hu (pe_fld (pv 0) rfl) (pv 1) (fun _ _ => rfl))) (blkOk_by (N := nIm) (sc := defScope sIm) (by decide +kernel)) (fun _ _ _ _ _ => pg_name (i := 2) scIm.nd rfl (Or.inl rfl)) (fun _ _ _ _ _ => pts_nil) (fun _ _ _ _ _ => (pe_cmpR op_ne (pe_fld (pv 2) rfl) (pe_meth (pv 0) HC.cl KO.mt KO.ok (hr.mono (by decide)) KO.bi .nil passLN (pa_cons (pv 1) pa_nil)) (nomark _)))) pa_nil))))), ?_⟩
    obtain ⟨dx, tn, tk, dd, df, dl, dr, hs, _, _, _, hf, _⟩ := ha.ex
    refine ⟨_, rfl, s, dx, _, rfl, hs, rfl, _, rfl, s, v, d, root, ks, rfl, ha, q, fun x mx e => ⟨_, rfl, ?_⟩, kE⟩
    subst e
    cases q.str_of
    have kk0 := k x mx rfl
    cases ef : x.f with
    | true =>
      refine iteT ?_
      have e1 : movK ks x = false := by unfold movK; rw [ef]; rfl
      have := kk0 H (Same.refl _)
      rw [e1] at this
      exact this
    | false =>
      obtain ⟨t, us, g, hus, evu⟩ := get_allF hf ha.ok.nd mx
      refine iteF ⟨_, rfl, s, CH, dx, _, _, rfl, hs, HC.cl, HC.no _ (by simp), (lk_h _ _ _ _ _ _ _).2.2.2.2.1, _, rfl, df, _, rfl, g, t, rfl, ⟨us, hus⟩, fun D hD => ?_⟩
      refine lc_sieve (mF K CF) mB (fun _ => true) (fun g => !decide (V.str g.n = tv x.k)) walk_tup (by have := ha.ok.few mx; omega) (fun H' s => s.sqT hus) hD evu (fun v c H2 Rq _ _ _ kk => kk _ (Same.refl _)) ?_ ?_
      · rintro u g H2 Rq _ _ s2 r kk
        obtain ⟨b, rfl, _⟩ := id r
        obtain ⟨dy, tw, hb⟩ := rd_fld r
        refine ⟨_, rfl, b, CF, dy, _, _, rfl, hb, CFc.cl, CFc.no _ (by simp), (lk_fs _ _ _ _ _).2.2.2.2, _, rfl, s, dx, _, rfl, s2 _ _ hs, rfl, _, rfl, s, .str x.n, .str x.n, root, ks, rfl, ha.same s2, q.same s2, fun y my ey => ?_, fun e => by rw [in_house mx] at e; cases e⟩
        have yx : y = x := by
          injection ey with ey
          have h1 := ha.ok.atN mx
          have h2 := ha.ok.atN my
          rw [← ey, h1] at h2
          exact (Option.some.inj h2).symm
        subst yx
        refine ⟨by show scal (V.str _) (tv y.k) = true; cases y.k <;> rfl, kk _ _ (Same.refl _) rfl⟩
      intro H2 zs s2 hz ez
      rw [filter_all] at ez
      have := ev_bools_eq ez
      subst this
      refine ⟨D, _, rfl, SqL.of hz, ?_⟩
      have e1 : movK ks x = ((allF ks x).map fun g => !decide (V.str g.n = tv x.k)).any id := by unfold movK; rw [ef]; rfl
      have := kk0 H2 s2
      rw [e1] at this
      exact this
abbrev sHo : Stmt := meth 32 21
abbrev nHo : List Str := ["self", "kind", "name"]
theorem scHo : FnScope nHo ["self", "kind"] (defScope sHo) := ⟨rfl, rfl, rfl, by decide +kernel, rfl, by decide +kernel, by decide +kernel⟩
theorem ok_Ho2 {f f1 : Addr} {fd fd1 : FuncData} (F : Fun K "heirs_of" "House.heirs_of" sHo f fd) (HC : PlainC K CH houseAt) (C : PlainC K CK ["name", "fields", "base", "frozen", "heirs", "key", "registered"]) (CK0 : KMt P w K mg base CH (L2N.CX P w) 3 "_check" nCk (spCk K CF CK CH CU) f1 fd1) : FnOk P w K mg base (L2N.CX P w) 4 f fd ["self", "kind"] (spM K CF CK CH CU (aWs heirsK)) := by
  refine fun_okC F scHo (fun vs H Q E h => ?_) (fun cdv A outer s0 H vs Q E hr h => ?_)
  · obtain ⟨s, v, d, root, ks, rfl, _⟩ := h
    rfl
  · obtain ⟨s, v, d, root, ks, rfl, ha, q, k, kE⟩ := h
    have hu := hu_of hr
    refine ⟨_, 
      (pss_cons (ps_expr (pe_meth (pv 0) HC.cl CK0.mt CK0.ok (hr.mono (by decide)) CK0.bi .nil (L2N.passes_call (L2N.takes_of rfl rfl rfl rfl) (fun _ _ _ _ h => h)) (pa_cons (pv 1) pa_nil)))
      (pss_one (ps_ret (pe_lc (own := [("name", 2)]) (g := gName 2) (te := tVar 2) (tt := tTest (tOp rEq (tFld K (tDGet (tFld K (tVar 0) "_by_name") (tVar 2)) "base") (tVar 1))) rfl scHo.nd (pi_tup (pe_fld (pv 0) rfl)) (blkOk_by (N := nHo) (sc := defScope sHo) (by decide +kernel)) (fun _ _ _ _ _ => pg_name (i := 2) scHo.nd rfl (Or.inl rfl)) (fun _ _ _ _ _ => pts_one (pt_cmpR op_eq (pe_fld (pe_dget hu (pe_fld (pv 0) rfl) (pv 2) (fun _ _ => rfl)) rfl) (pv 1) (nomark _))) (fun _ _ _ _ _ => (pv 2)))))), ?_⟩
    obtain ⟨dx, tn, tk, dd, df, dl, dr, hs, hn, _, hd, _, _⟩ := ha.ex
    refine ⟨_, rfl, s, dx, _, rfl, hs, rfl, _, rfl, s, v, d, root, ks, rfl, ha, q, fun e => ?_, kE⟩
    obtain ⟨x, mx, rfl⟩ := (house_cases ks d).resolve_right (by rw [e]; exact Bool.noConfusion)
    cases q.str_of
    refine ⟨_, rfl, s, CH, dx, _, _, rfl, hs, HC.cl, HC.no _ (by simp), (lk_h _ _ _ _ _ _ _).2.1, tn, rfl, ⟨_, hn⟩, fun D hD => ?_⟩
    refine lc_sieve mW mW (fun n => decide (tv (baseOf ks n) = V.str x.n)) id walk_tup (by rw [List.length_map]; have := ha.ok.n12; omega) (fun H' s9 => s9.sqT hn) hD (ev_words _) ?_ (fun v c H2 Rq _ _ _ r kk => ⟨_, rfl, kk _ _ (Same.refl _) r⟩) ?_
    · rintro _ c H2 Rq mc s2 rfl kk
      obtain ⟨y, my, ey⟩ := List.mem_map.mp mc
      obtain ⟨u, g, ⟨a2, dx2, tf2, rfl, ha2, _⟩⟩ := get_kind (hd.same (dK K CF CK) s2) ha.ok.nd my
      have eb : baseOf ks c = y.b := by
        unfold baseOf
        rw [← ey, show (ks.find? fun e => decide (e.n = y.n)) = some y from ha.ok.atN my]
        rfl
      rw [eb] at kk
      rw [ey] at g
      refine ⟨_, rfl, s, CH, dx, _, _, rfl, s2 _ _ hs, HC.cl, HC.no _ (by simp), (lk_h _ _ _ _ _ _ _).2.2.2.1, _, rfl, dd, _, rfl, g, a2, CK, dx2, _, _, rfl, ha2, C.cl, C.no _ (by simp), (lk_ks _ _ _ _ _ _ _).2.2.1, _, rfl, by cases y.b <;> rfl, _, rfl, kk _ (Same.refl _)⟩
    intro H2 zs s2 hz ez
    rw [List.map_id] at ez
    cases ev_words_eq ez
    exact k x mx rfl D H2 hD s2 hz
theorem dq_txt {K : PySem.W.Frag} {H : Hp} {v : V} {d : PyData} {z : Str} (q : Dq K H v d) : decide (v = .str z) = Wp.isTxt d z := by
  cases q with
  | dat q _ => cases q <;> simp [Wp.isTxt]
  | dct _ => simp [Wp.isTxt]
/-- admitted: of any, or of a kind; else UnknownKind -/
def spAm2 (K : PySem.W.Frag) (CF CK CH CU : Addr) : Sp := fun vs H Q E => ∃ (s : Addr) (v : V) (d : PyData) (root : Str) (ks : List KD), vs = [.ref s, v] ∧ HouseAt K CF CK CH H s root ks ∧ Dq K H v d ∧
  (∀ t, v = .str t → (t = "any" ∨ t ∈ ks.map (·.n)) → ∀ D H', H D = none → Same H H' → H' D = some (.lst ((admK ks t).map V.str)) → Q (.ref D) H') ∧
  (v ≠ .str "any" → inHouse ks d = false → ∀ (H' : Hp) (e : Addr), Same H H' → H e = none → H' e = some (.xd [("name", v)]) → E (.ref CU) (some e) H')
theorem ok_Am2 {f f1 f2 fU : Addr} {fd fd1 fd2 fdU : FuncData} (F : Fun K "admitted" "House.admitted" sAm f fd) (B : Bn mg) (HC : PlainC K CH houseAt) (gA : ∃ u, mg "ANY" = some u ∧ RelV (.str "any") u) (LT : KMt P w K mg base CH CX0 1 "_lets" nLt (spLt K CF CK CH) f1 fd1)
    (HS : KMt P w K mg base CH CX0 1 "__contains__" nHas (spHas K CF CK CH) f2 fd2) (hasIn : PySem.W.findIn K (.ref CH) "__contains__" = some (some (.ref f2))) (hasFn : PySem.W.isFn K (.ref f2) = true) (M : Mk1 P w K mg base "UnknownKind" "name" CU fU fdU) : FnOk P w K mg base (L2N.CX P w) 3 f fd ["self", "target"] (spAm2 K CF CK CH CU) := by
  refine fun_okC F scAm (fun vs H Q E h => ?_) (fun cdv A outer s H vs Q E hr h => ?_)
  · obtain ⟨s, v, d, root, ks, rfl, _⟩ := h
    rfl
  · obtain ⟨s, v, d, root, ks, rfl, ha, q, k, kE⟩ := h
    refine ⟨_, 
      (pss_cons (ps_if (PW.pt (pw_and (pt_cmpR (op_neTxt hr.units) (pv 1) (pe_cn (by rfl) gA) (nomark _)) (pw_and1 (pt_cmpR (op_ownNotIn HS.ok HS.bi pass0 hasIn hasFn (hr.mono (by decide))) (pv 1) (pv 0) (by rfl))))) 
        (pss_one (L2N.ps_raise rfl (L2N.takes_of rfl rfl rfl rfl) (pmk_oexN M.T M.iC M.tI M.FI (hr.mono (by decide)) M.bI pass0 (by rfl) M.gC (pa_cons (pv 1) pa_nil)))) pss_nil)
      (pss_one (ps_ret (pe_lc (own := [("name", 2)]) (g := gName 2) (te := tVar 2) rfl scAm.nd (pi_tup (pe_fld (pv 0) rfl)) (blkOk_by (N := nAm) (sc := defScope sAm) (by decide +kernel)) (fun _ _ _ _ _ => pg_name (i := 2) scAm.nd rfl (Or.inl rfl)) (fun _ _ _ _ _ => pts_one (pt_val (pe_meth (pv 0) HC.cl LT.mt LT.ok (hr.mono (by decide)) LT.bi .nil pass0 (pa_cons (pv 1) (pa_cons (pv 2) pa_nil))))) (fun _ _ _ _ _ => (pv 2)))))), ?_⟩
    obtain ⟨dx, tn, tk, dd, df, dl, dr, hs, hn, _, hd, _⟩ := ha.ex
    have go : ∀ t, v = .str t → (t = "any" ∨ t ∈ ks.map (·.n)) → ∀ D, H D = none → ∀ (Hq : Hp), True → True := fun _ _ _ _ _ _ _ => trivial
    have test : ∀ (t : Str) (D : Addr) (x : V) (c : Str) (H1 : Hp) (Rq : Bool → Hp → Prop), c ∈ ks.map (·.n) → Same H H1 → rW H1 x c → (∀ H2, Same H1 H2 → Rq (letB ks t c) H2) →
        (tB (tMeth CH "_lets" (spLt K CF CK CH) [] E0 (tVar 0) (tCons (tVar 1) (tCons (tVar 2) tNil)))) ((List.set (L2.start nAm [V.ref s, V.str t]) 2 none).set 2 (some x)) H1 Rq := by
      rintro t D _ c H1 Rq mc s1 rfl kk
      exact ⟨_, rfl, s, dx, _, rfl, s1 _ _ hs, rfl, _, rfl, _, rfl, s, t, c, dx, dd, _, ks, rfl, s1 _ _ hs, (lk_h _ _ _ _ _ _ _).2.2.2.1, hd.same (dK K CF CK) s1, ha.ok.nd, mc, _, rfl, kk _ (Same.refl _)⟩
    refine ⟨_, rfl, d, "any", rfl, (by decide +kernel), q, _, rfl, ?_⟩
    rw [show (if true = true then !Wp.isTxt d "any" else Wp.isTxt d "any") = !decide (v = .str "any") from congrArg (fun b => !b) (dq_txt q).symm]
    by_cases e : v = .str "any"
    · rw [decide_eq_true e]
      subst e
      refine iteF (iteF ?_)
      refine ⟨_, rfl, s, CH, dx, _, _, rfl, hs, HC.cl, HC.no _ (by simp), (lk_h _ _ _ _ _ _ _).2.1, tn, rfl, ⟨_, hn⟩, fun D hD => lc_sieve mW mW (fun n => letB ks "any" n) id walk_tup (by rw [List.length_map]; have := ha.ok.n12; omega) (fun H' s9 => s9.sqT hn) hD (ev_words _) (test "any" D) (fun v c H2 Rq _ _ _ r kk => ⟨_, rfl, kk _ _ (Same.refl _) r⟩) fun H' ys s1 e ev => ?_⟩
      rw [List.map_id] at ev
      cases ev_words_eq ev
      exact k "any" rfl (.inl rfl) D H' hD s1 e
    · rw [decide_eq_false e]
      refine iteT ⟨_, rfl, _, rfl, s, dx, _, rfl, hs, s, v, d, root, ks, rfl, ha, q, _, rfl, _, rfl, ?_⟩
      rcases house_cases ks d with ⟨x, mx, rfl⟩ | e1
      · cases q.str_of
        rw [in_house mx]
        refine iteF ?_
        refine ⟨_, rfl, s, CH, dx, _, _, rfl, hs, HC.cl, HC.no _ (by simp), (lk_h _ _ _ _ _ _ _).2.1, tn, rfl, ⟨_, hn⟩, fun D hD => lc_sieve mW mW (fun n => letB ks x.n n) id walk_tup (by rw [List.length_map]; have := ha.ok.n12; omega) (fun H' s9 => s9.sqT hn) hD (ev_words _) (test x.n D) (fun v c H2 Rq _ _ _ r kk => ⟨_, rfl, kk _ _ (Same.refl _) r⟩) fun H' ys s1 e ev => ?_⟩
        rw [List.map_id] at ev
        cases ev_words_eq ev
        exact k x.n rfl (.inr (List.mem_map_of_mem mx)) D H' hD s1 e
      · rw [e1]
        exact iteT ⟨_, rfl, rs1 (Q := E) fun d0 nd => kE e e1 _ d0 (same_new nd) nd upd_same⟩
abbrev sAs : Stmt := meth 32 23
abbrev nAs : List Str := ["self", "target", "kind", "admitted"]
theorem scAs : FnScope nAs ["self", "target", "kind"] (defScope sAs) := ⟨rfl, rfl, rfl, by decide +kernel, rfl, by decide +kernel, by decide +kernel⟩
/-- admits: the target is asked first, then the kind -/
def spAs (K : PySem.W.Frag) (CF CK CH CU : Addr) : Sp := fun vs H Q E => ∃ (s : Addr) (v y : V) (d z : PyData) (root : Str) (ks : List KD), vs = [.ref s, v, y] ∧ HouseAt K CF CK CH H s root ks ∧ Dq K H v d ∧ Dq K H y z ∧
  (∀ t x, v = .str t → (t = "any" ∨ t ∈ ks.map (·.n)) → x ∈ ks → z = .str x.n → ∀ H', Same H H' → Q (.bl (letB ks t x.n)) H') ∧
  (∀ t, v = .str t → (t = "any" ∨ t ∈ ks.map (·.n)) → inHouse ks z = false → ∀ (H' : Hp) (e : Addr), Same H H' → H e = none → H' e = some (.xd [("name", y)]) → E (.ref CU) (some e) H') ∧
  (v ≠ .str "any" → inHouse ks d = false → ∀ (H' : Hp) (e : Addr), Same H H' → H e = none → H' e = some (.xd [("name", v)]) → E (.ref CU) (some e) H')
theorem ok_As {f f1 f2 : Addr} {fd fd1 fd2 : FuncData} (F : Fun K "admits" "House.admits" sAs f fd) (HC : PlainC K CH houseAt) (AM : KMt P w K mg base CH (L2N.CX P w) 3 "admitted" ["self", "target"] (spAm2 K CF CK CH CU) f1 fd1)
    (CK0 : KMt P w K mg base CH (L2N.CX P w) 3 "_check" nCk (spCk K CF CK CH CU) f2 fd2) : FnOk P w K mg base (L2N.CX P w) 4 f fd ["self", "target", "kind"] (spAs K CF CK CH CU) := by
  refine fun_okC F scAs (fun vs H Q E h => ?_) (fun cdv A outer s H vs Q E hr h => ?_)
  · obtain ⟨s, v, y, d, z, root, ks, rfl, _⟩ := h
    rfl
  · obtain ⟨s, v, y, d, z, root, ks, rfl, ha, q, qz, k, kE, kE2⟩ := h
    have hu := hu_of hr
    refine ⟨_, 
      (pss_cons (ps_set (i := 3) scAs.nd rfl (.inl rfl) (pe_meth (pv 0) HC.cl AM.mt AM.ok (hr.mono (by decide)) AM.bi .nil (L2N.passes_call (L2N.takes_of rfl rfl rfl rfl) (fun _ _ _ _ h => h)) (pa_cons (pv 1) pa_nil)))
      (pss_cons (ps_expr (pe_meth (pv 0) HC.cl CK0.mt CK0.ok (hr.mono (by decide)) CK0.bi .nil (L2N.passes_call (L2N.takes_of rfl rfl rfl rfl) (fun _ _ _ _ h => h)) (pa_cons (pv 2) pa_nil)))
      (pss_one (ps_ret (pe_cmpR op_in_seq (pv 2) (pv 3) (by rfl)))))), ?_⟩
    obtain ⟨dx, tn, tk, dd, df, dl, dr, hs, hn, _, hd, _⟩ := ha.ex
    refine ⟨_, rfl, s, dx, _, rfl, hs, rfl, _, rfl, s, v, d, root, ks, rfl, ha, q, fun t et mt D H1 n1 s1 h1 => ?_, kE2⟩
    subst et
    refine ⟨_, rfl, s, dx, _, rfl, s1 _ _ hs, rfl, _, rfl, s, y, z, root, ks, rfl, ha.same s1, qz.same s1, fun e => ?_, fun e H' e2 s2 n2 h2 => kE t rfl mt e H' e2 (s1.trans s2) (by
      cases eD : H e2 with
      | none => rfl
      | some o =>
        rw [s1 _ _ eD] at n2
        cases n2) h2⟩
    obtain ⟨x, mx, rfl⟩ := (house_cases ks z).resolve_right (by rw [e]; exact Bool.noConfusion)
    cases qz.str_of
    refine ⟨_, rfl, _, rfl, D, _, rfl, .inl (SqL.of h1), rfl, flat_strs _, ?_⟩
    have := k t x rfl mt mx rfl H1 s1
    have e1 : inV (.str x.n) ((admK ks t).map V.str) = letB ks t x.n := by
      rw [mem_in, Bool.eq_iff_iff, decide_eq_true_eq]
      exact ⟨fun m => (List.mem_filter.mp m).2, fun m => List.mem_filter.mpr ⟨List.mem_map_of_mem mx, m⟩⟩
    show Q (.bl (inV (.str x.n) _)) H1
    rw [e1]
    exact this
end
end Wh
set_option Elab.async false
set_option linter.all false
set_option maxRecDepth 100000
set_option maxHeartbeats 4000000
namespace Wh
open PySem PySem.Spec PyProof.Rows L2
open Wp hiding Same.refl Same.trans same_new boot_all run_own
open W8 (Ev Rp Kp Mono same_new take_snoc rW rB mW mB ev_words ev_words_eq ev_bools_eq lc_sieve)
/-! ## what is due for a house of rows -/
def FrzOk (ks : List KD) (x : KD) : Prop := x.f = true → x.n ∉ farK ks x.n ∧ ∀ m ∈ farK ks x.n, heirB ks m = false
def RootIs (ks : List KD) (v : V) : Prop := ∃ x ∈ ks, v = .str x.n ∧ x.k = none
def AllAlone (ks : List KD) : Prop := ∀ (j : Nat) y, ks[j]? = some y → Alone (ks.take j) (ks.map (·.n)) y
inductive DueIs (ks : List KD) (v : V) : Option V → Prop
  | kind {i : Nat} {x : KD} (h : ks[i]? = some x) (e : ∀ (j : Nat) y, j < i → ks[j]? = some y → Alone (ks.take j) (ks.map (·.n)) y) (b : ¬ Alone (ks.take i) (ks.map (·.n)) x) : DueIs ks v (some (.str x.n))
  | frz {i : Nat} {x : KD} (h : ks[i]? = some x) (a : AllAlone ks) (e : ∀ (j : Nat) y, j < i → ks[j]? = some y → FrzOk ks y) (b : ¬ FrzOk ks x) : DueIs ks v (some (.str x.n))
  | root (a : AllAlone ks) (f : ∀ x ∈ ks, FrzOk ks x) (b : ¬ RootIs ks v) : DueIs ks v (some v)
  | ok (a : AllAlone ks) (f : ∀ x ∈ ks, FrzOk ks x) (b : RootIs ks v) : DueIs ks v none
theorem DueIs.one {ks : List KD} {v : V} {o p : Option V} (h : DueIs ks v o) (g : DueIs ks v p) : o = p := by
  cases h with
  | @kind i x h e b =>
    cases g with
    | @kind j y h2 e2 b2 =>
      rcases Nat.lt_trichotomy i j with l | rfl | l
      · exact absurd (e2 i x l h) b
      · rw [h] at h2
        cases h2
        rfl
      · exact absurd (e j y l h2) b2
    | frz _ a _ _ => exact absurd (a i x h) b
    | root a _ _ => exact absurd (a i x h) b
    | ok a _ _ => exact absurd (a i x h) b
  | @frz i x h a e b =>
    cases g with
    | @kind j y h2 e2 b2 => exact absurd (a j y h2) b2
    | @frz j y h2 _ e2 b2 =>
      rcases Nat.lt_trichotomy i j with l | rfl | l
      · exact absurd (e2 i x l h) b
      · rw [h] at h2
        cases h2
        rfl
      · exact absurd (e j y l h2) b2
    | root _ f _ => exact absurd (f x (List.mem_of_getElem? h)) b
    | ok _ f _ => exact absurd (f x (List.mem_of_getElem? h)) b
  | root a f b =>
    cases g with
    | @kind j y h2 e2 b2 => exact absurd (a j y h2) b2
    | @frz j y h2 _ e2 b2 => exact absurd (f y (List.mem_of_getElem? h2)) b2
    | root => rfl
    | ok _ _ r => exact absurd r b
  | ok a f b =>
    cases g with
    | @kind j y h2 e2 b2 => exact absurd (a j y h2) b2
    | @frz j y h2 _ e2 b2 => exact absurd (f y (List.mem_of_getElem? h2)) b2
    | root _ _ r => exact absurd b r
    | ok => rfl
theorem AllAlone.nd {ks : List KD} (a : AllAlone ks) : (ks.map (·.n)).Nodup := nodup_of_new ks fun i x e => (a i x e).new
theorem take_nd {ks : List KD} {i : Nat} (a : ∀ (j : Nat) y, j < i → ks[j]? = some y → Alone (ks.take j) (ks.map (·.n)) y) : ((ks.take i).map (·.n)).Nodup := by
  refine nodup_of_new (ks.take i) fun j x e => ?_
  have lj : j < i := by
    have := (List.getElem?_eq_some_iff.mp e).1
    rw [List.length_take] at this
    omega
  rw [List.getElem?_take_of_lt lj] at e
  rw [List.take_take, Nat.min_eq_left (Nat.le_of_lt lj)]
  exact (a j x lj e).new
theorem RowV.hb {x : KD} (h : RowV x) (hx : x.h = true) : x.b = none := by
  cases e : x.b with
  | none => rfl
  | some z =>
    have := (h.fh (by rw [e]; simp)).2
    rw [hx] at this
    cases this
theorem AllAlone.ok {ks : List KD} (a : AllAlone ks) (rv : ∀ x ∈ ks, RowV x) (n12 : ks.length ≤ 12) : RowsOk ks := by
  have at_ : ∀ {x}, x ∈ ks → ∃ i : Nat, ks[i]? = some x := fun {x} mx => List.getElem?_of_mem mx
  have ea : ∀ {i : Nat} {x}, ks[i]? = some x → allF (ks.take i) x = allF ks x := fun {i x} e => by
    unfold allF
    cases eb : x.b with
    | none => rfl
    | some b =>
      obtain ⟨y, my, ey, _⟩ := (a i x e).base b eb
      show baseFs (ks.take i) b ++ _ = baseFs ks b ++ _
      rw [HouseOk.find_take ⟨ks.drop i, (List.take_append_drop i ks).symm⟩ ⟨y, my, ey⟩]
  refine ⟨a.nd, fun x mx b eb => ?_, fun x mx g mg sg => ?_, fun x mx => ?_, n12⟩
  · obtain ⟨i, e⟩ := at_ mx
    obtain ⟨y, my, ey, hy⟩ := (a i x e).base b eb
    have my := List.mem_of_mem_take my
    exact ⟨y, ey ▸ atName_of a.nd my, (rv y my).hb hy⟩
  · obtain ⟨i, e⟩ := at_ mx
    rw [← ea e] at mg
    obtain ⟨t, et, _⟩ := (a i x e).aim g mg sg
    exact ⟨t, et⟩
  · obtain ⟨i, e⟩ := at_ mx
    have := (a i x e).few
    rw [ea e] at this
    omega
/-- the law's way of telling it -/
def dueL : Option V → List V
  | none => []
  | some v => [.str "bad", v]
end Wh
set_option Elab.async false
set_option linter.all false
set_option maxRecDepth 100000
set_option maxHeartbeats 4000000
namespace Wh
open PySem PySem.Spec PyProof.Rows L2
open Wp hiding Same.refl Same.trans same_new boot_all run_own
open W8 (Ev Rp Kp Mono same_new take_snoc rW rB mW mB ev_words ev_words_eq ev_bools_eq lc_sieve)
/-! ## houses that are refused -/
theorem slot_iff {g : FV} (h : FldOk g) : slotB g = true ↔ ∃ t, g.t = some t := by
  unfold slotB
  rcases h.m with ⟨m, t, _⟩ | ⟨m, _, t, e, _⟩
  · rw [m, t]
    simp
  · rw [e]
    rcases m with m | m <;> rw [m] <;> simp <;> decide +kernel
def NotK (K : PySem.W.Frag) (CK : Addr) (H : Hp) (v : V) : Prop := ∃ ty, TyX K H v ty ∧ PySem.W.kitOne K ty (.ref CK) = some false
def NotSeq (K : PySem.W.Frag) (H : Hp) (v : V) : Prop := ∃ ty, TyX K H v ty ∧ PySem.W.kitAny K ty [.type "list", .type "tuple"] = some false
section
variable {P : Program} {w : World} {K : PySem.W.Frag} {mg : Str → Option Value} {base : Heap} {CF CK CH CB : Addr}
/-- no kinds for a house -/
def BadKs (K : PySem.W.Frag) (CF CK : Addr) (H : Hp) (v : V) : Prop := NotSeq K H v ∨ ∃ (l : Addr) (xs : List V), v = .ref l ∧ (SqL K H l xs ∨ SqT K H l xs) ∧ (xs.length = 0 ∨ 12 < xs.length ∨
  (xs.length ≤ 12 ∧ ∃ (i : Nat) (u : V), xs[i]? = some u ∧ (∀ H', Same H H' → NotK K CK H' u) ∧ ∀ (j : Nat) z, j < i → xs[j]? = some z → ∃ x, rK K CF CK H z x))
def spChkB (K : PySem.W.Frag) (CF CK CB : Addr) : Sp := fun vs H Q E => ∃ (v : V), vs = [v] ∧
  ((∃ (l : Addr) (xs : List V) (ks : List KD), v = .ref l ∧ (SqL K H l xs ∨ SqT K H l xs) ∧ Ev (rK K CF CK) H xs ks ∧ 1 ≤ ks.length ∧ ks.length ≤ 12 ∧ ∀ H', Same H H' → Q .non H') ∨
   ((∀ H', Same H H' → BadKs K CF CK H' v) ∧ ∀ (H' : Hp) (e : Addr), Same H H' → H e = none → H' e = some (.xd [("name", .non)]) → E (.ref CB) (some e) H'))
theorem ok_chkB {f fB : Addr} {fd fdB : FuncData} {mc u12 : Value} (F : Fun K "_check_kinds" "_check_kinds" sChk f fd) (B : Bn mg) (O : OwnC K CK) (gK : mg "Kind" = some (.ref CK)) (gH : mg "House" = some (.ref CH)) (cr : ClX.CRead K CH mc) (cv : ClX.CVal K CH mc "KINDS" (.int 12) u12)
    (M : Mk1 P w K mg base "BadHouse" "name" CB fB fdB) : FnOk P w K mg base (L2N.CX P w) 3 f fd ["kinds"] (spChkB K CF CK CB) := by
  refine fun_okC F scChk (fun vs H Q E h => ?_) (fun cdv A outer s H vs Q E hr h => ?_)
  · obtain ⟨v, rfl, _⟩ := h
    rfl
  · obtain ⟨v, rfl, h⟩ := h
    have hu := hu_of hr
    refine ⟨_, 
      (pss_cons (ps_if (PW.pt (pw_or (pt_not (pt_val (pe_callB call_isiT (by rfl) B.isi boot_isi (pa_cons (pv 0) (pa_cons (pe_tup (pa_cons (pe_bltn (v := .ty "list") (by rfl) B.list PyProof.Rows.boot_list rfl) (pa_cons (pe_bltn (v := .ty "tuple") (by rfl) B.tuple boot_ttuple rfl) pa_nil))) pa_nil))))) (pw_or1 (pt_not (pt_chain op_le op_le pe_int (pe_callB call_len_seq (by rfl) B.len PySem.boot_len (pa_cons (pv 0) pa_nil)) (ClX.pe_cval (pe_glob (v := .ref CH) (by rfl) gH rfl))))))) 
        (pss_one (L2N.ps_raise rfl (L2N.takes_of rfl rfl rfl rfl) (pmk_oexN M.T M.iC M.tI M.FI (hr.mono (by decide)) M.bI pass0 (by rfl) M.gC (pa_cons pe_non pa_nil)))) pss_nil)
      (pss_one (ps_for PassesOwn.leaving rfl (pi_seqV (i := 0) (pv 0)) (pg_name (i := 1) scChk.nd rfl (Or.inl rfl)) 
        (pss_one (ps_if (pt_not (pt_val (pe_callB call_isi (by rfl) B.isi boot_isi (pa_cons (pv 1) (pa_cons (pe_glob (v := .ref CK) (by rfl) gK rfl) pa_nil))))) 
          (pss_one (L2N.ps_raise rfl (L2N.takes_of rfl rfl rfl rfl) (pmk_oexN M.T M.iC M.tI M.FI (hr.mono (by decide)) M.bI pass0 (by rfl) M.gC (pa_cons pe_non pa_nil)))) pss_nil))))), ?_⟩
    refine ⟨_, rfl, by show 2 ≤ sizeLine; decide, fun T hT => ?_⟩
    have s1 : Same H (upd H T (.tup [.ty "list", .ty "tuple"])) := same_new hT
    have e1 : ∀ n : Nat, 1 ≤ n → decide ((1 : Int) ≤ (n : Nat)) = true := fun n h => decide_eq_true (by omega)
    have e2 : ∀ n : Nat, n ≤ 12 → decide (((n : Nat) : Int) ≤ 12) = true := fun n h => decide_eq_true (by omega)
    rcases h with ⟨l, xs, ks, rfl, sq, ev, n1, n12, k⟩ | ⟨bad, k⟩
    · have sq1 := seq_same s1 sq
      obtain ⟨t, ty, ht⟩ := seq_ty sq1
      refine ⟨.ref l, T, [.ty "list", .ty "tuple"], _, [.type "list", .type "tuple"], _, rfl, upd_same, .cons (.ty _) (.cons (.ty _) .nil), ty, kit_seqv ht, _, rfl, iteF ?_⟩
      refine ⟨_, rfl, l, xs, rfl, sq1, _, _, rfl, rfl, _, rfl, ?_⟩
      rw [e1 _ (by rw [ev.1]; exact n1)]
      refine iteT ⟨CH, _, _, _, rfl, cr, cv, _, _, rfl, rfl, _, rfl, ?_⟩
      rw [e2 _ (by rw [ev.1]; exact n12)]
      refine iteF ?_
      refine ⟨l, xs, rfl, sq1, fun J G w hG => ?_⟩
      refine for_it w (fun i σ H' => ∃ y1, σ = [some (.ref l), y1] ∧ Same (upd H T (.tup [.ty "list", .ty "tuple"])) H') ⟨none, rfl, Same.refl _⟩ (fun i σ H' _ ⟨_, _, s⟩ => hG H' (.of s)) ?_ ?_
      · rintro i v σ H1 H2 hi ⟨y1, rfl, s2⟩ ⟨rfl, hv⟩
        obtain ⟨c, hc, a, dx, tf, rfl, ha, _⟩ := ev.at hv
        exact ⟨_, rfl, .ref a, .ref CK, _, _, true, rfl, .own _, O.ty ((s1.trans s2) _ _ ha), O.self, _, rfl, iteF ⟨_, rfl, s2⟩⟩
      · rintro σ H1 ⟨y1, rfl, s2⟩
        exact k H1 (s1.trans s2)
    · have go : ∀ {H1 : Hp}, Same H H1 → ∀ {e : Addr}, H1 e = none → E (.ref CB) (some e) (upd H1 e (.xd [("name", .non)])) := fun {H1} s {e} he => k _ e (s.trans (same_new he)) (s.free he) upd_same
      rcases bad _ s1 with ⟨ty, h1, h2⟩ | ⟨l, xs, rfl, sq1, h⟩
      · exact ⟨v, T, [.ty "list", .ty "tuple"], _, [.type "list", .type "tuple"], _, rfl, upd_same, .cons (.ty _) (.cons (.ty _) .nil), h1, h2, _, rfl, iteT (iteT (rs1 (Q := E) fun d0 nd => go s1 nd))⟩
      · obtain ⟨t, ty, ht⟩ := seq_ty sq1
        refine ⟨.ref l, T, [.ty "list", .ty "tuple"], _, [.type "list", .type "tuple"], _, rfl, upd_same, .cons (.ty _) (.cons (.ty _) .nil), ty, kit_seqv ht, _, rfl, iteF ?_⟩
        refine ⟨_, rfl, l, xs, rfl, sq1, _, _, rfl, rfl, _, rfl, ?_⟩
        rcases h with h | h | ⟨h, i, u, hu0, nk, before⟩
        · rw [show decide ((1 : Int) ≤ (xs.length : Nat)) = false from decide_eq_false (by omega)]
          exact iteF ⟨_, rfl, iteT (rs1 (Q := E) fun d0 nd => go s1 nd)⟩
        · rw [e1 _ (by omega)]
          refine iteT ⟨CH, _, _, _, rfl, cr, cv, _, _, rfl, rfl, _, rfl, ?_⟩
          rw [show decide (((xs.length : Nat) : Int) ≤ 12) = false from decide_eq_false (by omega)]
          exact iteT (rs1 (Q := E) fun d0 nd => go s1 nd)
        · have li := (List.getElem?_eq_some_iff.mp hu0).1
          rw [e1 _ (by omega)]
          refine iteT ⟨CH, _, _, _, rfl, cr, cv, _, _, rfl, rfl, _, rfl, ?_⟩
          rw [e2 _ h]
          refine iteF ⟨l, xs, rfl, sq1, fun J G w hG => ?_⟩
          refine for_it w (fun j σ H' => j ≤ i ∧ ∃ y1, σ = [some (.ref l), y1] ∧ Same (upd H T (.tup [.ty "list", .ty "tuple"])) H') ⟨Nat.zero_le _, none, rfl, Same.refl _⟩ (fun i σ H' _ ⟨_, _, _, s⟩ => hG H' (.of s)) ?_ ?_
          · rintro j v σ H1 H2 hj ⟨ji, y1, rfl, s2⟩ ⟨rfl, hv⟩
            by_cases e : j = i
            · subst e
              rw [hu0] at hv
              cases hv
              obtain ⟨ty2, t1, t2⟩ := nk _ s2
              exact ⟨_, rfl, u, .ref CK, _, _, false, rfl, .own _, t1, t2, _, rfl, iteT (rs1 (Q := E) fun d0 nd => go (s1.trans s2) nd)⟩
            · obtain ⟨x, a, dx, tf, rfl, ha, _⟩ := before j v (by omega) hv
              exact ⟨_, rfl, .ref a, .ref CK, _, _, true, rfl, .own _, O.ty (s2 _ _ ha), O.self, _, rfl, iteF ⟨by omega, _, rfl, s2⟩⟩
          · rintro σ H1 ⟨ji, _⟩
            omega
/-- a kind behind the earlier ones, right or not -/
def spAlnB (K : PySem.W.Frag) (CF CK : Addr) : Sp := fun vs H Q _ => ∃ (v : V) (d t : Addr) (x : KD) (es : List KD) (names : List Str), vs = [v, .ref d, .ref t] ∧ rK K CF CK H v x ∧ Dc (rK K CF CK) H d (es.map (·.n)) es ∧ (es.map (·.n)).Nodup ∧
  SqT K H t (names.map V.str) ∧ (∀ x ∈ es, RowV x) ∧ RowV x ∧ ∀ b H', Same H H' → (b = true ↔ Alone es names x) → Q (.bl b) H'
theorem ok_alnB {f f1 f2 : Addr} {fd fd1 fd2 : FuncData} {mc u10 : Value} (F : Fun K "_holds_alone" "_holds_alone" sAln f fd) (B : Bn mg) (C : PlainC K CK ["name", "fields", "base", "frozen", "heirs", "key", "registered"]) (CFc : PlainC K CF ["name", "mode", "target", "default", "was"])
    (AF : Known P w K mg base CX0 1 "_all_fields" ["kind", "by_name"] (spAll K CF CK) f1 fd1) (DF : Known P w K mg base CX0 1 "are_different" ["names"] (spDiff K) f2 fd2)
    (gA : ∃ u, mg "ANY" = some u ∧ RelV (.str "any") u) (gH : mg "House" = some (.ref CH)) (cr : ClX.CRead K CH mc) (cv : ClX.CVal K CH mc "FIELDS" (.int 10) u10) :
    FnOk P w K mg base CX0 2 f fd ["kind", "earlier", "names"] (spAlnB K CF CK) := by
  refine F.ok scAln (fun vs H Q E h => ?_) (fun cdv A outer s H vs Q E hr h => ?_)
  · obtain ⟨v, d, t, x, es, names, rfl, _⟩ := h
    rfl
  · obtain ⟨_, d, t, x, es, names, rfl, hk0, hd, nd, ht, rve, rvx, k⟩ := h
    obtain ⟨a, dx, tf, rfl, ha, hf⟩ := id hk0
    have hu := hu_of hr
    have nope : ∀ {H' : Hp}, Same H H' → ¬ Alone es names x → Q (.bl false) H' := fun s n => k false _ s ⟨fun z => (by cases z), fun a => absurd a n⟩
    refine ⟨_, 
      (pss_cons (ps_if (pt_cmp (pc_din hu (pe_fld (pv 0) rfl) (pv 1))) 
        (pss_one (ps_ret pe_bl)) pss_nil)
      (pss_cut (ps_if (PW.pt (pw_and (pt_cmp (pc_notN (pe_fld (pv 0) rfl))) (pw_and1 (PW.pt (pw_or (pt_cmp (pc_dnotin hu (pe_fld (pv 0) rfl) (pv 1))) (pw_or1 (pt_not (pt_val (pe_fld (pe_dget hu (pv 1) (pe_fld (pv 0) rfl) (fun _ _ => rfl)) rfl))))))))) 
        (pss_one (ps_ret pe_bl)) pss_nil)
      (pss_cons (ps_set (i := 3) scAln.nd rfl (.inl rfl) (pe_call AF.ok (hr.mono (by decide)) rfl AF.mg AF.kp AF.bi .nil pass0 (pa_cons (pv 0) (pa_cons (pv 1) pa_nil))))
      (pss_cut (ps_if (PW.pt (pw_or (pt_cmpR op_gt (pe_callB call_len_seq (by rfl) B.len PySem.boot_len (pa_cons (pv 3) pa_nil)) (ClX.pe_cval (pe_glob (v := .ref CH) (by rfl) gH rfl)) (nomark _)) (pw_or1 (pt_not (pt_val (pe_call DF.ok (hr.mono (by decide)) rfl DF.mg DF.kp DF.bi .nil pass0 (pa_cons (pe_lc (own := [("field", 5)]) (g := gName 5) (tt := tYes) (te := tFld K (tVar 5) "name") rfl scAln.nd (pi_tup (pv 3)) (blkOk_by (N := nAln) (sc := defScope sAln) (by decide +kernel)) (fun _ _ _ _ _ => pg_name (i := 5) scAln.nd rfl (Or.inl rfl)) (fun _ _ _ _ _ => pts_nil) (fun _ _ _ _ _ => (pe_fld (pv 5) rfl))) pa_nil))))))) 
        (pss_one (ps_ret pe_bl)) pss_nil)
      (pss_cons (ps_setLc (i := 4) (own := [("field", 5)]) (g := gName 5) (te := tVar 5) (tt := tTest (tOp rNe (tFld K (tVar 5) "mode") (tC (.str "mark")))) rfl scAln.nd rfl rfl (sw_true rfl rfl rfl (by decide +kernel)) (pi_tup (pv 3)) (blkOk_by (N := nAln) (sc := defScope sAln) (by decide +kernel)) (fun _ _ _ _ _ => pg_name (i := 5) scAln.nd rfl (Or.inl rfl)) (fun _ _ _ _ _ => pts_one (pt_cmpR op_ne (pe_fld (pv 5) rfl) pe_str (nomark _))) (fun _ _ _ _ _ => (pv 5)))
      (pss_cut (ps_if (pt_not (pt_val (pe_callB (cr_all rfl) (by rfl) B.all boot_all (pa_cons (pe_lc (own := [("field", 5)]) (g := gName 5) (tt := tYes) (te := tOrV (tOp rEq (tFld K (tVar 5) "target") (tC (.str "any"))) (tOp (rIn K false) (tFld K (tVar 5) "target") (tVar 2))) rfl scAln.nd (pi_list (pv 4)) (blkOk_by (N := nAln) (sc := defScope sAln) (by decide +kernel)) (fun _ _ _ _ _ => pg_name (i := 5) scAln.nd rfl (Or.inl rfl)) (fun _ _ _ _ _ => pts_nil) (fun _ _ _ _ _ => (pe_or (pe_cmpR op_eq (pe_fld (pv 5) rfl) (pe_cn (by rfl) gA) (nomark _)) (pe_one (pe_cmpR (show OpR _ (compareOp .In) (rIn K false) from op_in_seq) (pe_fld (pv 5) rfl) (pv 2) (by rfl)))))) pa_nil)))) 
        (pss_one (ps_ret pe_bl)) pss_nil)
      (pss_one (ps_ret (pe_or (pe_cmp (pc_isN (pe_fld (pv 0) rfl)) rfl) (pe_one (pe_and (pe_notT (pv 4)) (pe_one (pe_cmpR op_in_seq (pe_fld (pv 0) rfl) (pe_lc (own := [("field", 5)]) (g := gName 5) (tt := tYes) (te := tFld K (tVar 5) "name") rfl scAln.nd (pi_tup (pv 3)) (blkOk_by (N := nAln) (sc := defScope sAln) (by decide +kernel)) (fun _ _ _ _ _ => pg_name (i := 5) scAln.nd rfl (Or.inl rfl)) (fun _ _ _ _ _ => pts_nil) (fun _ _ _ _ _ => (pe_fld (pv 5) rfl))) (by rfl)))))))))))))), ?_⟩
    refine ⟨_, rfl, a, CK, dx, _, _, rfl, ha, C.cl, C.no _ (by simp), (lk_ks _ _ _ _ _ _ _).1, ?_⟩
    obtain ⟨o0, g0, eo0⟩ := hd.has x.n
    refine ⟨_, rfl, d, o0, rfl, g0, _, rfl, ?_⟩
    rw [eo0]
    by_cases new : x.n ∈ es.map (·.n)
    · rw [decide_eq_true new]
      exact iteT (nope (Same.refl _) fun al => al.new new)
    rw [decide_eq_false new]
    refine iteF ?_
    refine ⟨fun σ H' => σ = [some (.ref a), some (.ref d), some (.ref t), none, none, none] ∧ H' = H ∧ ∀ b, x.b = some b → ∃ y ∈ es, y.n = b ∧ y.h = true, ?_, ?_⟩
    · refine ⟨_, rfl, a, CK, dx, _, _, rfl, ha, C.cl, C.no _ (by simp), (lk_ks _ _ _ _ _ _ _).2.2.1, ?_⟩
      cases e : x.b with
      | none => exact ⟨_, rfl, iteF (iteF ⟨rfl, rfl, fun b h => by cases h⟩)⟩
      | some b =>
        rw [e] at ha
        obtain ⟨ob, gb, eob⟩ := hd.has b
        refine ⟨_, rfl, iteT ⟨_, rfl, a, CK, dx, _, _, rfl, ha, C.cl, C.no _ (by simp), (lk_ks _ _ _ _ _ _ _).2.2.1, _, rfl, d, ob, rfl, gb, _, rfl, ?_⟩⟩
        rw [eob]
        by_cases mb : b ∈ es.map (·.n)
        · rw [decide_eq_true mb]
          obtain ⟨i, u, z, hn, hz, ⟨a2, dx2, tf2, rfl, ha2, us2, hf2, ev2⟩, g⟩ := hd.get (n := b) mb
          have ez : z.n = b := by
            rw [List.getElem?_map, hz] at hn
            exact Option.some.inj hn
          have mz := List.mem_of_getElem? hz
          refine iteF ⟨_, rfl, _, rfl, a, CK, dx, _, _, rfl, ha, C.cl, C.no _ (by simp), (lk_ks _ _ _ _ _ _ _).2.2.1, d, _, rfl, g, a2, CK, dx2, _, _, rfl, ha2, C.cl, C.no _ (by simp), (lk_ks _ _ _ _ _ _ _).2.2.2.2.1, _, rfl, ?_⟩
          cases hz2 : z.h with
          | true => exact iteF ⟨rfl, rfl, fun b2 h => by cases h; exact ⟨z, mz, ez, hz2⟩⟩
          | false =>
            refine iteT (nope (Same.refl _) fun al => ?_)
            obtain ⟨y, my, ey, hy⟩ := al.base b e
            have h1 := atName_of nd mz
            have h2 := atName_of nd my
            rw [ez] at h1
            rw [ey, h1] at h2
            cases h2
            rw [hz2] at hy
            cases hy
        · rw [decide_eq_false mb]
          exact iteT (iteT (nope (Same.refl _) fun al => by
            obtain ⟨y, my, ey, _⟩ := al.base b e
            exact mb (ey ▸ List.mem_map_of_mem my)))
    rintro _ H0 ⟨rfl, rfl, bok⟩
    have fok : (∀ g ∈ allF es x, FldOk g) ∧ (allF es x).length ≤ 20 := by
      cases eb : x.b with
      | none =>
        have e2 : allF es x = x.fs := by unfold allF; rw [eb]
        rw [e2]
        exact ⟨rvx.fs, by have := rvx.f10; omega⟩
      | some b =>
        obtain ⟨y, my, ey, _⟩ := bok b eb
        have h2 : (es.find? fun e => decide (e.n = b)) = some y := ey ▸ atName_of nd my
        have e2 : allF es x = y.fs ++ x.fs := by
          simp only [allF, baseFs, eb, h2]
          rfl
        have ryy := rve y my
        rw [e2]
        refine ⟨fun g mg => ?_, by rw [List.length_append]; have := rvx.f10; have := ryy.f10; omega⟩
        rcases List.mem_append.mp mg with mg | mg
        · exact ryy.fs g mg
        · exact rvx.fs g mg
    obtain ⟨fok, f20⟩ := fok
    have few : (allF es x).length ≤ 1000 := by omega
    refine ⟨_, rfl, _, rfl, .ref a, d, x, es, rfl, hk0, hd, nd, ?_, few, fun t2 H1 s1 ht2 => ?_⟩
    · intro b e
      obtain ⟨y, my, ey, _⟩ := bok b e
      exact ey ▸ List.mem_map_of_mem my
    obtain ⟨us, hus, evu⟩ := ht2
    have rd : ∀ (H2 : Hp) (b : Addr) (g : FV), rF K CF H2 (.ref b) g → ∃ dy tw, H2 b = some (.ins CF dy (fsF (.str g.n) (.str g.m) (tv g.t) (.int g.d) tw)) := by
      rintro H2 b g ⟨b2, e2, ⟨dy, tw, hb, _⟩, _⟩
      cases e2
      exact ⟨dy, tw, hb⟩
    refine ⟨fun σ H' => σ = [some (.ref a), some (.ref d), some (.ref t), some (.ref t2), none, none] ∧ Same H1 H' ∧ (allF es x).length ≤ 10 ∧ ((allF es x).map (·.n)).Nodup, ?_, ?_⟩
    · refine ⟨_, rfl, t2, us, rfl, .inr hus, CH, _, _, _, rfl, cr, cv, _, _, rfl, rfl, _, rfl, ?_⟩
      by_cases l10 : (allF es x).length ≤ 10
      · rw [show decide ((10 : Int) < ((us.length : Nat) : Int)) = false from decide_eq_false (by rw [evu.1]; omega)]
        refine iteF ⟨_, rfl, t2, rfl, ⟨us, hus⟩, fun D hD => ?_⟩
        refine lc_sieve (mF K CF) mW (fun _ => true) (fun g => g.n) walk_tup few (fun H2 s2 => s2.sqT hus) hD evu (fun v c H2 Rq _ _ _ kk => kk _ (Same.refl _)) ?_ ?_
        · rintro v c H2 Rq _ _ _ r kk
          obtain ⟨b, rfl, _⟩ := id r
          obtain ⟨dy, tw, hb⟩ := rd _ _ _ r
          exact ⟨_, rfl, b, CF, dy, _, _, rfl, hb, CFc.cl, CFc.no _ (by simp), (lk_fs _ _ _ _ _).2.2.2.2, kk _ _ (Same.refl _) rfl⟩
        intro H2 ys s2 hys ey
        rw [filter_all] at ey
        have eys := ev_words_eq ey
        subst eys
        refine ⟨D, (allF es x).map (fun g => g.n), rfl, ⟨.inl (SqL.of hys), by rw [List.length_map]; exact few⟩, _, rfl, ?_⟩
        by_cases nd2 : ((allF es x).map (·.n)).Nodup
        · rw [decide_eq_true nd2]
          exact iteF ⟨rfl, s2, l10, nd2⟩
        · rw [decide_eq_false nd2]
          exact iteT (nope (s1.trans s2) fun al => nd2 al.diff)
      · rw [show decide ((10 : Int) < ((us.length : Nat) : Int)) = true from decide_eq_true (by rw [evu.1]; omega)]
        exact iteT (iteT (nope s1 fun al => l10 al.few))
    rintro _ H2 ⟨rfl, s2, l10, nd2⟩
    have s02 := s1.trans s2
    have hus2 := s2.sqT hus
    have evu2 := evu.same (mF K CF) s2
    refine ⟨_, rfl, t2, rfl, ⟨us, hus2⟩, fun D3 hD3 => ?_⟩
    refine lc_sieve (mF K CF) (mF K CF) slotB id walk_tup few (fun H3 s3 => s3.sqT hus2) hD3 evu2 ?_ ?_ ?_
    · rintro v c H3 Rq _ s3 r kk
      obtain ⟨b, rfl, _⟩ := id r
      obtain ⟨dy, tw, hb⟩ := rd _ _ _ r
      refine ⟨_, rfl, b, CF, dy, _, _, rfl, hb, CFc.cl, CFc.no _ (by simp), (lk_fs _ _ _ _ _).2.2.2.1, rfl, _, rfl, ?_⟩
      rw [dec_s]
      exact kk _ (Same.refl _)
    · rintro v c H3 Rq _ _ s3 r kk
      exact ⟨_, rfl, kk _ _ (Same.refl _) r⟩
    intro H3 zs s3 hzs ez
    rw [List.map_id] at ez
    have s03 := s02.trans s3
    have ls : ((allF es x).filter slotB).length ≤ 1000 := Nat.le_trans (List.length_filter_le _ _) few
    refine ⟨fun σ H' => σ = [some (.ref a), some (.ref d), some (.ref t), some (.ref t2), some (.ref D3), none] ∧ Same H3 H' ∧ (∀ g ∈ allF es x, slotB g = true → ∃ t, g.t = some t ∧ (t = "any" ∨ t ∈ names)), ?_, ?_⟩
    · refine ⟨_, rfl, D3, rfl, ⟨zs, SqL.of hzs⟩, fun D4 hD4 => ?_⟩
      refine lc_sieve (mF K CF) mB (fun _ => true) (fun g : FV => decide (∀ z : Str, g.t = some z → z = "any" ∨ z ∈ names)) walk_list ls (fun H4 s4 => SqL.of (s4 _ _ hzs)) hD4 ez (fun v c H2 Rq _ _ _ kk => kk _ (Same.refl _)) ?_ ?_
      · rintro v g H4 Rq mg _ s4 r kk
        obtain ⟨b, rfl, _⟩ := id r
        obtain ⟨dy, tw, hb⟩ := rd _ _ _ r
        obtain ⟨m1, m2⟩ := List.mem_filter.mp mg
        obtain ⟨tg, et⟩ := (slot_iff (fok g m1)).mp m2
        rw [et] at hb
        refine ⟨_, rfl, b, CF, dy, _, _, rfl, hb, CFc.cl, CFc.no _ (by simp), (lk_fs _ _ _ _ _).2.2.1, rfl, _, rfl, ?_⟩
        rw [show decide (tv (some tg) = V.str "any") = decide (tg = ("any" : Str)) from dec_s]
        have key : ∀ c : Bool, (c = true ↔ (tg = "any" ∨ tg ∈ names)) → rB H4 (.bl c) (decide (∀ z : Str, g.t = some z → z = "any" ∨ z ∈ names)) := fun c hc => by
          show V.bl c = V.bl _
          congr 1
          rw [Bool.eq_iff_iff, hc, decide_eq_true_eq]
          exact ⟨fun h z ez => by rw [et] at ez; cases ez; exact h, fun h => h tg et⟩
        by_cases ea : tg = ("any" : Str)
        · rw [decide_eq_true ea]
          exact iteT (kk _ _ (Same.refl _) (key true ⟨fun _ => .inl ea, fun _ => rfl⟩))
        · rw [decide_eq_false ea]
          refine iteF ⟨_, rfl, b, CF, dy, _, _, rfl, hb, CFc.cl, CFc.no _ (by simp), (lk_fs _ _ _ _ _).2.2.1, _, rfl, t, names.map V.str, rfl, .inr ((s03.trans s4).sqT ht), rfl, flat_strs _, ?_⟩
          show Rq (.bl (inV (.str tg) _)) H4
          rw [mem_in]
          exact kk _ _ (Same.refl _) (key _ ⟨fun h => .inr (of_decide_eq_true h), fun h => decide_eq_true (h.resolve_left ea)⟩)
      intro H4 bs s4 hbs eb
      rw [filter_all] at eb
      have ebs := ev_bools_eq eb
      subst ebs
      refine ⟨D4, _, rfl, SqL.of hbs, _, rfl, ?_⟩
      by_cases aim : ∀ g ∈ allF es x, slotB g = true → ∃ t, g.t = some t ∧ (t = "any" ∨ t ∈ names)
      · rw [show (((allF es x).filter slotB).map fun g : FV => decide (∀ z : Str, g.t = some z → z = "any" ∨ z ∈ names)).all id = true by
          rw [List.all_map, List.all_eq_true]
          intro g mg
          obtain ⟨m1, m2⟩ := List.mem_filter.mp mg
          obtain ⟨tg, et, h⟩ := aim g m1 m2
          exact decide_eq_true fun z ez => by rw [et] at ez; cases ez; exact h]
        exact iteF ⟨rfl, s4, aim⟩
      · rw [show (((allF es x).filter slotB).map fun g : FV => decide (∀ z : Str, g.t = some z → z = "any" ∨ z ∈ names)).all id = false by
          refine Bool.eq_false_iff.mpr fun h => aim fun g mg sg => ?_
          rw [List.all_map, List.all_eq_true] at h
          have := of_decide_eq_true (h g (List.mem_filter.mpr ⟨mg, sg⟩))
          obtain ⟨tg, et⟩ := (slot_iff (fok g mg)).mp sg
          exact ⟨tg, et, this tg et⟩]
        exact iteT (nope (s03.trans s4) fun al => aim al.aim)
    rintro _ H4 ⟨rfl, s4, aim⟩
    have s04 := s03.trans s4
    have s14 := s2.trans (s3.trans s4)
    refine ⟨_, rfl, a, CK, dx, _, _, rfl, s04 _ _ ha, C.cl, C.no _ (by simp), (lk_ks _ _ _ _ _ _ _).2.2.2.2.2.1, ?_⟩
    cases e : x.k with
    | none => exact ⟨_, rfl, iteT (k true _ s04 ⟨fun _ => ⟨new, bok, l10, nd2, aim, fun z h => by rw [e] at h; cases h⟩, fun _ => rfl⟩)⟩
    | some kn =>
      have ha4 := s04 _ _ ha
      rw [e] at ha4
      refine ⟨_, rfl, iteF ?_⟩
      by_cases nos : (allF es x).filter slotB = []
      · have zn : zs = [] := List.eq_nil_of_length_eq_zero (by rw [ez.1, nos]; rfl)
        have mk : ∀ g ∈ allF es x, slotB g = false := fun g mg => by
          have := List.filter_eq_nil_iff.mp nos g mg
          simpa using this
        refine ⟨_, rfl, false, .inl ⟨zs, SqL.of (s4 _ _ hzs), by rw [zn]; rfl⟩, _, rfl, iteT ?_⟩
        refine ⟨_, rfl, a, CK, dx, _, _, rfl, ha4, C.cl, C.no _ (by simp), (lk_ks _ _ _ _ _ _ _).2.2.2.2.2.1, _, rfl, t2, rfl, ⟨us, s14.sqT hus⟩, fun D5 hD5 => ?_⟩
        refine lc_sieve (mF K CF) mW (fun _ => true) (fun g => g.n) walk_tup few (fun H5 s5 => s5.sqT (s14.sqT hus)) hD5 (evu.same (mF K CF) s14) (fun v c H2 Rq _ _ _ kk => kk _ (Same.refl _)) ?_ ?_
        · rintro v c H5 Rq _ _ _ r kk
          obtain ⟨b, rfl, _⟩ := id r
          obtain ⟨dy, tw, hb⟩ := rd _ _ _ r
          exact ⟨_, rfl, b, CF, dy, _, _, rfl, hb, CFc.cl, CFc.no _ (by simp), (lk_fs _ _ _ _ _).2.2.2.2, kk _ _ (Same.refl _) rfl⟩
        intro H5 ws s5 hws ew
        rw [filter_all] at ew
        have ews := ev_words_eq ew
        subst ews
        refine ⟨D5, _, rfl, .inl (SqL.of hws), rfl, flat_strs _, ?_⟩
        show Q (.bl (inV (.str kn) _)) H5
        rw [mem_in]
        refine k _ _ (s04.trans s5) ⟨fun h => ⟨new, bok, l10, nd2, aim, fun z hz => ?_⟩, fun al => decide_eq_true (al.key kn e).2⟩
        rw [e] at hz
        cases hz
        exact ⟨mk, of_decide_eq_true h⟩
      · have zp : zs ≠ [] := fun z => nos (List.eq_nil_of_length_eq_zero (by rw [← ez.1, z]; rfl))
        refine ⟨_, rfl, true, .inl ⟨zs, SqL.of (s4 _ _ hzs), by cases zs with | nil => exact absurd rfl zp | cons _ _ => rfl⟩, _, rfl, iteF ?_⟩
        exact nope s04 fun al => nos (List.filter_eq_nil_iff.mpr fun g mg => by rw [(al.key kn e).1 g mg]; simp)
end
end Wh
set_option Elab.async false
set_option linter.all false
set_option maxRecDepth 100000
set_option maxHeartbeats 4000000
namespace Wh
open PySem PySem.Spec PyProof.Rows L2
open Wp hiding Same.refl Same.trans same_new boot_all run_own
open W8 (Ev Rp Kp Mono same_new take_snoc rW rB mW mB ev_words ev_words_eq ev_bools_eq lc_sieve)
/-! ## houses that are refused: the frozen kinds, the root -/
theorem in_strs {v : V} {ns : List Str} : inV v (ns.map V.str) = true ↔ ∃ n ∈ ns, v = .str n := by
  unfold inV
  rw [List.any_map, List.any_eq_true]
  constructor
  · rintro ⟨x, hx, e⟩
    cases v with
    | str s => exact ⟨x, hx, by rw [show x = s from beq_iff_eq.mp e]⟩
    | _ => cases e
  · rintro ⟨n, hn, rfl⟩
    exact ⟨n, hn, beq_self_eq_true n⟩
namespace AllAlone
variable {ks : List KD}
theorem all (h : AllAlone ks) {i : Nat} {x : KD} (e : ks[i]? = some x) : allF (ks.take i) x = allF ks x := by
  unfold allF
  cases eb : x.b with
  | none => rfl
  | some b =>
    obtain ⟨y, my, ey, _⟩ := (h i x e).base b eb
    show baseFs (ks.take i) b ++ _ = baseFs ks b ++ _
    rw [HouseOk.find_take ⟨ks.drop i, (List.take_append_drop i ks).symm⟩ ⟨y, my, ey⟩]
theorem few (h : AllAlone ks) {x : KD} (mx : x ∈ ks) : (allF ks x).length ≤ 10 := by
  obtain ⟨i, e⟩ := List.getElem?_of_mem mx
  rw [← h.all e]
  exact (h i x e).few
theorem base (h : AllAlone ks) {x : KD} (mx : x ∈ ks) {b : Str} (eb : x.b = some b) : b ∈ ks.map (·.n) := by
  obtain ⟨i, e⟩ := List.getElem?_of_mem mx
  obtain ⟨y, my, ey, _⟩ := (h i x e).base b eb
  exact ey ▸ List.mem_map_of_mem (List.mem_of_mem_take my)
theorem leads (h : AllAlone ks) (n12 : ks.length ≤ 12) : Leads (ks.map (·.n)) (leadOf ks) := by
  have q : ∀ n, leadOf ks n = [] ∨ ∃ x, leadOf ks n = ledBy ks x := fun n => by
    unfold leadOf
    cases atName ks n with
    | none => exact .inl rfl
    | some x => exact .inr ⟨x, rfl⟩
  refine ⟨h.nd, by rw [List.length_map]; exact n12, fun n _ m hm => ?_, fun n _ => ?_⟩
  · rcases q n with e | ⟨x, e⟩
    · rw [e] at hm; cases hm
    · rw [e] at hm
      exact (List.mem_filter.mp hm).1
  · rcases q n with e | ⟨x, e⟩
    · rw [e]; exact List.nodup_nil
    · rw [e]
      exact h.nd.filter _
end AllAlone
section
variable {P : Program} {w : World} {K : PySem.W.Frag} {mg : Str → Option Value} {base : Heap} {CF CK CH CB : Addr}
def spFzB (K : PySem.W.Frag) (CF CK CH CB : Addr) : Sp := fun vs H Q E => ∃ (s : Addr) (dx d dr tn : Addr) (fs : List (Str × V)) (ks : List KD), vs = [.ref s] ∧ H s = some (.ins CH dx fs) ∧ List.lookup ("_by_name" : Str) fs = some (.ref d) ∧ List.lookup ("_far" : Str) fs = some (.ref dr) ∧ List.lookup ("names" : Str) fs = some (.ref tn) ∧
  Dc (rK K CF CK) H d (ks.map (·.n)) ks ∧ (ks.map (·.n)).Nodup ∧ ks.length ≤ 12 ∧ Dc rL H dr (ks.map (·.n)) ((ks.map (·.n)).map (farK ks)) ∧ SqT K H tn ((ks.map (·.n)).map V.str) ∧ (∀ n ∈ ks.map (·.n), (farK ks n).length ≤ 12 ∧ ∀ m ∈ farK ks n, m ∈ ks.map (·.n)) ∧
  ((∀ x ∈ ks, FrzOk ks x) → ∀ H', Same H H' → Q .non H') ∧
  ∀ (i : Nat) x, ks[i]? = some x → (∀ (j : Nat) y, j < i → ks[j]? = some y → FrzOk ks y) → ¬ FrzOk ks x → ∀ (H' : Hp) (e : Addr), Same H H' → H' e = some (.xd [("name", .str x.n)]) → E (.ref CB) (some e) H'
theorem ok_fzB {f fB : Addr} {fd fdB : FuncData} (F : Fun K "_check_frozen" "House._check_frozen" sFz f fd) (an : mg "any" = none) (C : PlainC K CK ["name", "fields", "base", "frozen", "heirs", "key", "registered"]) (HC : PlainC K CH houseAt) (M : Mk1 P w K mg base "BadHouse" "name" CB fB fdB) : FnOk P w K mg base (L2N.CX P w) 3 f fd ["self"] (spFzB K CF CK CH CB) := by
  refine fun_okC F scFz (fun vs H Q E h => ?_) (fun cdv A outer s H vs Q E hr h => ?_)
  · obtain ⟨v, dx, d, dr, tn, fs, ks, rfl, _⟩ := h
    rfl
  · obtain ⟨v, dx, d, dr, tn, fs, ks, rfl, hs, l1, l2, l3, hd, nd, k12, hL, hn, sub, k, kE⟩ := h
    have hu := hu_of hr
    refine ⟨_, 
      (pss_one (ps_for PassesOwn.leaving rfl (pi_tup (pe_fld (pv 0) rfl)) (pg_name (i := 1) scFz.nd rfl (Or.inl rfl)) 
        (pss_cons (ps_set (i := 2) scFz.nd rfl (.inl rfl) (pe_dget hu (pe_fld (pv 0) rfl) (pv 1) (fun _ _ => rfl)))
        (pss_one (ps_if (PW.pt (pw_and (pt_val (pe_fld (pe_dget hu (pe_fld (pv 0) rfl) (pv 1) (fun _ _ => rfl)) rfl)) (pw_and1 (PW.pt (pw_or (pt_cmpR op_in_seq (pv 1) (pv 2) (by rfl)) (pw_or1 (pt_val (pe_callB (cr_any rfl) (by rfl) an boot_any (pa_cons (pe_lc (own := [("other", 3)]) (g := gName 3) (tt := tYes) (te := tFld K (tDGet (tFld K (tVar 0) "_by_name") (tVar 3)) "heirs") rfl scFz.nd (pi_list (pv 2)) (blkOk_by (N := nFz) (sc := defScope sFz) (by decide +kernel)) (fun _ _ _ _ _ => pg_name (i := 3) scFz.nd rfl (Or.inl rfl)) (fun _ _ _ _ _ => pts_nil) (fun _ _ _ _ _ => (pe_fld (pe_dget hu (pe_fld (pv 0) rfl) (pv 3) (fun _ _ => rfl)) rfl))) pa_nil))))))))) 
          (pss_one (L2N.ps_raise rfl (L2N.takes_of rfl rfl rfl rfl) (pmk_oexN M.T M.iC M.tI M.FI (hr.mono (by decide)) M.bI pass0 (by rfl) M.gC (pa_cons (pv 1) pa_nil)))) pss_nil))))), ?_⟩
    refine ⟨_, rfl, v, CH, dx, _, _, rfl, hs, HC.cl, HC.no _ (by simp), l3, tn, rfl, ⟨_, hn⟩, ?_⟩
    refine for_it (walk_tup (xs := (ks.map (fun z => KD.n z)).map V.str)) (fun j σ H' => ∃ v1 v2, σ = [some (.ref v), v1, v2, none] ∧ Same H H' ∧ ∀ (j2 : Nat) y, j2 < j → ks[j2]? = some y → FrzOk ks y) ⟨none, none, rfl, Same.refl _, fun j y z => absurd z (Nat.not_lt_zero j)⟩ (fun i σ H' _ ⟨_, _, _, s, _⟩ => s.sqT hn) ?_ ?_
    · rintro j y σ H1 H2 hj ⟨v1, v2, rfl, s1, fz⟩ ⟨rfl, hy⟩
      rw [List.getElem?_map] at hy
      obtain ⟨n, hn1, rfl⟩ := Option.map_eq_some_iff.mp hy
      have mn : n ∈ ks.map (·.n) := List.mem_of_getElem? hn1
      obtain ⟨_, _, _, hn2, hz2, ⟨l0, rfl, h0⟩, g0⟩ := hL.get mn
      rw [List.getElem?_map, hn2] at hz2
      obtain rfl := Option.some.inj hz2
      obtain ⟨i, u, z, hn3, hz, ⟨a2, dx2, tf2, rfl, ha2, us2, hf2, ev2⟩, g⟩ := hd.get mn
      obtain ⟨ez, fe⟩ := at_name nd hn3 hz
      have mz : z ∈ ks := List.mem_of_getElem? hz
      have hzj : ks[j]? = some z := by
        have li : i < (ks.map (·.n)).length := (List.getElem?_eq_some_iff.mp hn3).1
        have := (List.getElem?_inj (i := i) (j := j) li nd).mp (hn3.trans hn1.symm)
        rw [← this]; exact hz
      have next : ∀ {H3 : Hp}, Same H H3 → FrzOk ks z → ∀ {v1 v2 : Option V}, ∃ v1' v2', [some (V.ref v), v1, v2, none] = [some (V.ref v), v1', v2', none] ∧ Same H H3 ∧ ∀ (j2 : Nat) y, j2 < j + 1 → ks[j2]? = some y → FrzOk ks y := fun s f => ⟨_, _, rfl, s, fun j2 y lj hy2 => by
        by_cases e : j2 = j
        · rw [e, hzj] at hy2
          cases hy2
          exact f
        · exact fz j2 y (by omega) hy2⟩
      have bad : ∀ {H3 : Hp}, Same H H3 → ¬ FrzOk ks z → ∀ {e : Addr}, H3 e = none → E (.ref CB) (some e) (upd H3 e (.xd [("name", .str n)])) := fun {H3} s f {e} he => by
        have := kE j z hzj fz f _ e (s.trans (same_new he)) (by rw [ez]; exact upd_same)
        exact this
      have hs1 := s1 _ _ hs
      refine ⟨_, rfl, v, CH, dx, _, _, rfl, hs1, HC.cl, HC.no _ (by simp), l2, _, rfl, dr, _, rfl, dget_same g0 s1, ?_⟩
      refine ⟨_, rfl, v, CH, dx, _, _, rfl, hs1, HC.cl, HC.no _ (by simp), l1, _, rfl, d, _, rfl, dget_same g s1, a2, CK, dx2, _, _, rfl, s1 _ _ ha2, C.cl, C.no _ (by simp), (lk_ks _ _ _ _ _ _ _).2.2.2.1, _, rfl, ?_⟩
      cases ef : z.f with
      | false => exact iteF (iteF (next s1 fun q => by rw [ef] at q; cases q))
      | true =>
        refine iteT ⟨_, rfl, _, rfl, l0, _, rfl, .inl (SqL.of (s1 _ _ h0)), rfl, flat_strs _, _, rfl, ?_⟩
        rw [show inV (.str n) ((farK ks n).map V.str) = decide (n ∈ farK ks n) from mem_in]
        by_cases f1 : n ∈ farK ks n
        · rw [decide_eq_true f1]
          exact iteT (iteT ⟨_, rfl, rs1 (Q := E) fun d0 nd => bad s1 (fun f => (f ef).1 (by rw [ez]; exact f1)) nd⟩)
        rw [decide_eq_false f1]
        refine iteF ⟨_, rfl, l0, rfl, ⟨_, SqL.of (s1 _ _ h0)⟩, fun D hD => ?_⟩
        refine lc_sieve mW mB (fun _ => true) (fun m => heirB ks m) walk_list (Nat.le_trans (sub n mn).1 (by decide)) (fun H3 s3 => SqL.of (s3 _ _ (s1 _ _ h0))) hD (ev_words (farK ks n)) (fun v c H2 Rq _ _ _ kk => kk _ (Same.refl _)) ?_ ?_
        · rintro _ m H3 Rq mm _ s3 rfl kk
          obtain ⟨i5, u5, z5, hn5, hz5, ⟨a5, dx5, tf5, rfl, ha5, us5, hf5, ev5⟩, g5⟩ := hd.get ((sub n mn).2 m mm)
          obtain ⟨ez5, fe5⟩ := at_name nd hn5 hz5
          have s13 := s1.trans s3
          refine ⟨_, rfl, v, CH, dx, _, _, rfl, s13 _ _ hs, HC.cl, HC.no _ (by simp), l1, _, rfl, d, _, rfl, dget_same g5 s13, a5, CK, dx5, _, _, rfl, s13 _ _ ha5, C.cl, C.no _ (by simp), (lk_ks _ _ _ _ _ _ _).2.2.2.2.1, kk _ _ (Same.refl _) ?_⟩
          show V.bl z5.h = V.bl (heirB ks m)
          unfold heirB
          rw [fe5]
          rfl
        · intro H3 bs s3 hbs eb
          rw [filter_all] at eb
          have ebs := ev_bools_eq eb
          subst ebs
          refine ⟨D, _, rfl, SqL.of hbs, _, rfl, ?_⟩
          by_cases f2 : ∀ m ∈ farK ks n, heirB ks m = false
          · rw [show ((farK ks n).map fun m => heirB ks m).any id = false by
              rw [List.any_map, List.any_eq_false]
              intro m hm
              show ¬ heirB ks m = true
              rw [f2 m hm]
              exact Bool.false_ne_true]
            exact iteF (next (s1.trans s3) fun _ => by rw [ez]; exact ⟨f1, f2⟩)
          · rw [show ((farK ks n).map fun m => heirB ks m).any id = true by
              rw [List.any_map]
              refine Bool.not_eq_false _ ▸ fun q => f2 fun m hm => ?_
              rw [List.any_eq_false] at q
              exact Bool.not_eq_true _ ▸ q m hm]
            exact iteT ⟨_, rfl, rs1 (Q := E) fun d0 nd => bad (s1.trans s3) (fun f => f2 (by have := (f ef).2; rw [ez] at this; exact this)) nd⟩
    · rintro σ H1 ⟨v1, v2, rfl, s1, fz⟩
      exact k (fun x mx => by
        obtain ⟨j, hj⟩ := List.getElem?_of_mem mx
        exact fz j x (by rw [List.length_map, List.length_map]; exact (List.getElem?_eq_some_iff.mp hj).1) hj) H1 s1
/-- what stands behind a house's kinds -/
def KindsAre (K : PySem.W.Frag) (CH : Addr) (H : Hp) (s : Addr) (xs : List V) : Prop := ∃ dx fs tk, H s = some (.ins CH dx fs) ∧ List.lookup ("_kinds" : Str) fs = some (.ref tk) ∧ SqT K H tk xs
def spHIB (K : PySem.W.Frag) (CF CK CH CB : Addr) : Sp := fun vs H Q E => ∃ (s dx : Addr) (rt kv : V), vs = [.ref s, rt, kv] ∧ H s = some (.ins CH dx []) ∧
  (((∀ H', Same H H' → BadKs K CF CK H' kv) ∧ ∀ (H' : Hp) (e : Addr), But s H H' → H' e = some (.xd [("name", .non)]) → E (.ref CB) (some e) H') ∨
   ∃ (l : Addr) (xs : List V) (ks : List KD), kv = .ref l ∧ (∃ o, H l = some o) ∧ (SqL K H l xs ∨ SqT K H l xs) ∧ Ev (rK K CF CK) H xs ks ∧ 1 ≤ ks.length ∧ ks.length ≤ 12 ∧ (∀ x ∈ ks, RowV x) ∧ flatV rt = true ∧
    (∀ z (H' : Hp) (e : Addr), DueIs ks rt (some z) → But s H H' → H' e = some (.xd [("name", z)]) → E (.ref CB) (some e) H') ∧
    ∀ root H', DueIs ks rt none → rt = .str root → But s H H' → HouseAt K CF CK CH H' s root ks → KindsAre K CH H' s xs → Q .non H')
theorem ok_HIB {f f1 f2 f3 f4 f5 f6 fB : Addr} {fd fd1 fd2 fd3 fd4 fd5 fd6 fdB : FuncData} (F : Fun K "__init__" "House.__init__" sHI f fd) (B : Bn mg) (C : PlainC K CK ["name", "fields", "base", "frozen", "heirs", "key", "registered"]) (HC : PlainC K CH houseAt) (nF : CF ≠ CH) (nK : CK ≠ CH)
    (CKS : Known P w K mg base (L2N.CX P w) 3 "_check_kinds" ["kinds"] (spChkB K CF CK CB) f1 fd1) (AL : Known P w K mg base CX0 2 "_holds_alone" ["kind", "earlier", "names"] (spAlnB K CF CK) f2 fd2) (AF : Known P w K mg base CX0 1 "_all_fields" ["kind", "by_name"] (spAll K CF CK) f3 fd3)
    (LD : KMt P w K mg base CH CX0 2 "_leads_from" ["self", "name"] (spLd K CF CK CH) f4 fd4) (FR : Known P w K mg base CX0 1 "_far_from" ["name", "leads"] (spFar K) f5 fd5) (FZ : KMt P w K mg base CH (L2N.CX P w) 3 "_check_frozen" ["self"] (spFzB K CF CK CH CB) f6 fd6) (M : Mk1 P w K mg base "BadHouse" "name" CB fB fdB) :
    FnOk P w K mg base (L2N.CX P w) 4 f fd ["self", "root", "kinds"] (spHIB K CF CK CH CB) := by
  refine fun_okC F scHI (fun vs H Q E h => ?_) (fun cdv A outer s0 H vs Q E hr h => ?_)
  · obtain ⟨s, dx, rt, kv, rfl, _⟩ := h
    rfl
  · obtain ⟨s, dx, rt, kv, rfl, hs, h⟩ := h
    have hu := hu_of hr
    refine ⟨_, 
      (pss_cons (ps_expr (pe_call CKS.ok (hr.mono (by decide)) rfl CKS.mg CKS.kp CKS.bi .nil (L2N.passes_call (L2N.takes_of rfl rfl rfl rfl) (fun _ _ _ _ h => h)) (pa_cons (pv 2) pa_nil)))
      (pss_cons (ps_set (i := 3) scHI.nd rfl (.inl rfl) (pe_callTy call_tuple_of (by rfl) B.tuple boot_ttuple (pa_cons (pe_lc (own := [("kind", 5)]) (g := gName 5) (tt := tYes) (te := tFld K (tVar 5) "name") rfl scHI.nd (pi_seqV (i := 2) (pv 2)) (blkOk_by (N := nHI) (sc := defScope sHI) (by decide +kernel)) (fun _ _ _ _ _ => pg_name (i := 5) scHI.nd rfl (Or.inl rfl)) (fun _ _ _ _ _ => pts_nil) (fun _ _ _ _ _ => (pe_fld (pv 5) rfl))) pa_nil)))
      (pss_cons (ps_set (i := 4) scHI.nd rfl (.inr rfl) pe_dnewK)
      (pss_cons (ps_for PassesOwn.leaving rfl (pi_seqV (i := 2) (pv 2)) (pg_name (i := 5) scHI.nd rfl (Or.inl rfl)) 
        (pss_cons (ps_if (pt_not (pt_val (pe_call AL.ok (hr.mono (by decide)) rfl AL.mg AL.kp AL.bi .nil pass0 (pa_cons (pv 5) (pa_cons (pv 4) (pa_cons (pv 3) pa_nil)))))) 
          (pss_one (L2N.ps_raise rfl (L2N.takes_of rfl rfl rfl rfl) (pmk_oexN M.T M.iC M.tI M.FI (hr.mono (by decide)) M.bI pass0 (by rfl) M.gC (pa_cons (pe_fld (pv 5) rfl) pa_nil)))) pss_nil)
        (pss_one (ps_dput hu (pv 4) (pe_fld (pv 5) rfl) (pv 5) rfl))))
      (pss_cons (ps_fld (pv 0) (pv 1) rfl)
      (pss_cons (ps_fld (pv 0) (pv 3) rfl)
      (pss_cut (ps_fld (pv 0) (pe_callTy call_tuple_of (by rfl) B.tuple boot_ttuple (pa_cons (pv 2) pa_nil)) rfl)
      (pss_cons (ps_fld (pv 0) (pv 4) rfl)
      (pss_cons (ps_fld (pv 0) (pe_dc (own := [("name", 6)]) (g := gName 6) (tt := tYes) (tk := tVar 6) (tv := tCall (spAll K CF CK) [] E0 (tCons (tDGet (tVar 4) (tVar 6)) (tCons (tVar 4) tNil))) rfl scHI.nd (pi_tup (pv 3)) (blkOk_by (N := nHI) (sc := defScope sHI) (by decide +kernel)) (fun _ _ _ _ _ => pg_name (i := 6) scHI.nd rfl (Or.inl rfl)) (fun _ _ _ _ _ => pts_nil) (fun _ _ _ _ _ => (pv 6)) (fun _ _ _ _ _ => (pe_call AF.ok (hr.mono (by decide)) rfl AF.mg AF.kp AF.bi .nil pass0 (pa_cons (pe_dget hu (pv 4) (pv 6) (fun _ _ => rfl)) (pa_cons (pv 4) pa_nil))))) rfl)
      (pss_cons (ps_fld (pv 0) (pe_dc (own := [("name", 6)]) (g := gName 6) (tt := tYes) (tk := tVar 6) (tv := tMeth CH "_leads_from" (spLd K CF CK CH) [] E0 (tVar 0) (tCons (tVar 6) tNil)) rfl scHI.nd (pi_tup (pv 3)) (blkOk_by (N := nHI) (sc := defScope sHI) (by decide +kernel)) (fun _ _ _ _ _ => pg_name (i := 6) scHI.nd rfl (Or.inl rfl)) (fun _ _ _ _ _ => pts_nil) (fun _ _ _ _ _ => (pv 6)) (fun _ _ _ _ _ => (pe_meth (pv 0) HC.cl LD.mt LD.ok (hr.mono (by decide)) LD.bi .nil pass0 (pa_cons (pv 6) pa_nil)))) rfl)
      (pss_cons (ps_fld (pv 0) (pe_dc (own := [("name", 6)]) (g := gName 6) (tt := tYes) (tk := tVar 6) (tv := tCall (spFar K) [] E0 (tCons (tVar 6) (tCons (tFld K (tVar 0) "_leads") tNil))) rfl scHI.nd (pi_tup (pv 3)) (blkOk_by (N := nHI) (sc := defScope sHI) (by decide +kernel)) (fun _ _ _ _ _ => pg_name (i := 6) scHI.nd rfl (Or.inl rfl)) (fun _ _ _ _ _ => pts_nil) (fun _ _ _ _ _ => (pv 6)) (fun _ _ _ _ _ => (pe_call FR.ok (hr.mono (by decide)) rfl FR.mg FR.kp FR.bi .nil pass0 (pa_cons (pv 6) (pa_cons (pe_fld (pv 0) rfl) pa_nil))))) rfl)
      (pss_cons (ps_expr (pe_meth0 (pv 0) HC.cl FZ.mt FZ.ok (hr.mono (by decide)) FZ.bi .nil (L2N.passes_call (L2N.takes_of rfl rfl rfl rfl) (fun _ _ _ _ h => h))))
      (pss_one (ps_if (PW.pt (pw_or (pt_cmpR op_notIn_seq (pv 1) (pv 3) (by rfl)) (pw_or1 (pt_cmp (pc_notN (pe_fld (pe_dget hu (pv 4) (pv 1) (fun _ _ => rfl)) rfl)))))) 
        (pss_one (L2N.ps_raise rfl (L2N.takes_of rfl rfl rfl rfl) (pmk_oexN M.T M.iC M.tI M.FI (hr.mono (by decide)) M.bI pass0 (by rfl) M.gC (pa_cons (pv 1) pa_nil)))) pss_nil)))))))))))))), ?_⟩
    rcases h with ⟨bad, kB⟩ | ⟨l, xs, ks, rfl, ⟨ol, hol⟩, sq, ev, n1, k12, rv, fv, kE, k⟩
    · exact ⟨_, rfl, kv, rfl, .inr ⟨bad, fun H' e s1 _ he => kB H' e (fun b o n g => s1 _ _ g) he⟩⟩
    refine ⟨_, rfl, .ref l, rfl, .inl ⟨l, xs, ks, rfl, sq, ev, n1, k12, fun H1 s1 => ?_⟩⟩
    have few : ks.length ≤ 1000 := Nat.le_trans k12 (by decide)
    refine ⟨l, xs, rfl, seq_same s1 sq, fun J G w hG D hD => ?_⟩
    refine lc_sieve (mK K CF CK) mW (fun _ => true) (fun x => x.n) w few (fun H' s => hG H' (.of s)) hD (ev.same (mK K CF CK) s1) (fun v c H2 Rq _ _ _ kk => kk _ (Same.refl _)) ?_ ?_
    · rintro v c H2 Rq _ _ _ ⟨a, dy, tf, rfl, ha, _⟩ kk
      exact ⟨_, rfl, a, CK, dy, _, _, rfl, ha, C.cl, C.no _ (by simp), (lk_ks _ _ _ _ _ _ _).1, kk _ _ (Same.refl _) rfl⟩
    intro H2 ws s2 hws ew
    rw [filter_all] at ew
    have ews := ev_words_eq ew
    subst ews
    refine ⟨D, _, rfl, .inl ⟨SqL.of hws, fun tn htn dd hdd => ?_⟩⟩
    have s13 : Same H (upd H2 tn (.tup ((ks.map fun x => x.n).map V.str))) := s1.trans (s2.trans (same_new htn))
    have hT : SqT K (upd H2 tn (.tup ((ks.map fun x => x.n).map V.str))) tn ((ks.map fun x => x.n).map V.str) := SqT.of upd_same
    generalize upd H2 tn (.tup ((ks.map fun x => x.n).map V.str)) = H3 at s13 hT hdd ⊢
    refine ⟨l, xs, rfl, seq_same (s13.trans (same_new hdd)) sq, fun J2 G2 w2 hG2 => ?_⟩
    refine for_it w2 (fun j σ H' => ∃ v5, σ = [some (.ref s), some rt, some (.ref l), some (.ref tn), some (.ref dd), v5, none] ∧ Same H3 H' ∧ Dc (rK K CF CK) H' dd ((ks.take j).map (·.n)) (ks.take j) ∧ ∀ (j2 : Nat) y, j2 < j → ks[j2]? = some y → Alone (ks.take j2) (ks.map (·.n)) y)
      ⟨none, rfl, same_new hdd, Dc.nil upd_same, fun j y z => absurd z (Nat.not_lt_zero j)⟩ (fun i σ H' _ ⟨_, _, s, q, _⟩ => hG2 H' fun o e => ?_) ?_ ?_
    · have hl3 := s13 _ _ hol
      rw [upd_ne (ne_of_none hl3 hdd)] at e
      exact s _ _ e
    · rintro j v σ H4 _ hj ⟨v5, rfl, s4, hd4, al⟩ ⟨rfl, hv⟩
      obtain ⟨x, hx, r⟩ := (ev.same (mK K CF CK) (s13.trans s4)).at hv
      obtain ⟨a, dy, tf, rfl, ha, hf⟩ := id r
      have ndj : ((ks.take j).map (·.n)).Nodup := take_nd al
      refine ⟨_, rfl, _, rfl, _, rfl, .ref a, dd, tn, x, ks.take j, ks.map (·.n), rfl, r, hd4, ndj, s4.sqT hT, fun y my => rv y (List.mem_of_mem_take my), rv x (List.mem_of_getElem? hx), fun b H5 s5 hb => ⟨_, rfl, ?_⟩⟩
      cases eb : b with
      | false =>
        have nx : ¬ Alone (ks.take j) (ks.map (·.n)) x := fun a => by
          have := hb.mpr a
          rw [eb] at this
          cases this
        refine iteT ⟨_, rfl, a, CK, dy, _, _, rfl, s5 _ _ ha, C.cl, C.no _ (by simp), (lk_ks _ _ _ _ _ _ _).1, rs1 (Q := E) fun d0 nd => ?_⟩
        exact kE _ _ d0 (.kind hx al nx) (fun b o _ e => same_new nd _ _ (s5 _ _ (s4 _ _ (s13 _ _ e)))) upd_same
      | true =>
      have ax := hb.mp eb
      refine iteF ?_
      obtain ⟨H6, put, hd6, oth⟩ := (hd4.same (dK K CF CK) s5).put (dK K CF CK) ax.new (by rw [List.length_map, List.length_take]; omega) (rK_stay (.kp (.of s5)) r)
      refine ⟨_, rfl, _, rfl, _, rfl, a, CK, dy, _, _, rfl, s5 _ _ ha, C.cl, C.no _ (by simp), (lk_ks _ _ _ _ _ _ _).1, dd, H6, rfl, put, _, rfl, fun b o e => oth b o (ne_of_none e hdd) (s5 _ _ (s4 _ _ e)), ?_⟩
      refine ⟨?_, fun j2 y lj hy => ?_⟩
      · rw [take_snoc hx, List.map_append]
        exact hd6
      · by_cases e : j2 = j
        · subst e
          rw [hx] at hy
          cases hy
          exact ax
        · exact al j2 y (by omega) hy
    · rintro σ H4 ⟨v5, rfl, s4, hd4, al⟩
      have tk : ks.take xs.length = ks := by rw [ev.1]; exact List.take_length
      rw [tk] at hd4
      have al : AllAlone ks := fun j y hy => al j y (by have := (List.getElem?_eq_some_iff.mp hy).1; have := ev.1; omega) hy
      have rok := al.ok rv k12
      have s04 : Same H H4 := s13.trans s4
      have hs4 := s04 _ _ hs
      have hT4 := s4.sqT hT
      have sq4 := seq_same s04 sq
      have ev4 := ev.same (mK K CF CK) s04
      -- root, names
      refine ⟨_, rfl, _, rfl, s, CH, dx, _, rfl, hs4, HC.cl, HC.no _ (by simp), (by decide), ?_⟩
      refine ⟨_, rfl, _, rfl, s, CH, dx, _, rfl, upd_same, HC.cl, HC.no _ (by simp), (by show 1 < 1000; decide), ?_⟩
      rw [show putF "root" (rt) [] = ([("root", rt)] : List (Str × V)) from rfl, pf1, upd_upd]
      have b5 : But s H4 (upd H4 s (.ins CH dx [("root", rt), ("names", .ref tn)])) := fun b o n e => by rw [upd_ne n]; exact e
      have k5 : Kh CH H4 (upd H4 s (.ins CH dx [("root", rt), ("names", .ref tn)])) := Kh.put hs4
      have hs5 : (upd H4 s (.ins CH dx [("root", rt), ("names", .ref tn)])) s = some (.ins CH dx [("root", rt), ("names", .ref tn)]) := upd_same
      generalize upd H4 s (.ins CH dx [("root", rt), ("names", .ref tn)]) = H5 at b5 k5 hs5 ⊢
      refine ⟨fun σ H' => ∃ v5 tk, σ = [some (.ref s), some rt, some (.ref l), some (.ref tn), some (.ref dd), v5, none] ∧ H' s = some (.ins CH dx [("root", rt), ("names", .ref tn), ("_kinds", .ref tk)]) ∧ Kh CH H4 H' ∧ But s H4 H' ∧ SqT K H' tk xs, ?_, ?_⟩
      · have sq5 : SqL K H5 l xs ∨ SqT K H5 l xs := sq4.imp k5.sqL k5.sqT
        have fin : ∀ (tk : Addr) (H6 : Hp), H6 s = some (.ins CH dx [("root", rt), ("names", .ref tn)]) → Kh CH H4 H6 → But s H4 H6 → SqT K H6 tk xs → 
            ∃ v5' tk', [some (V.ref s), some rt, some (.ref l), some (.ref tn), some (.ref dd), v5, none] = [some (.ref s), some rt, some (.ref l), some (.ref tn), some (.ref dd), v5', none] ∧
              (upd H6 s (.ins CH dx (putF "_kinds" (.ref tk) [("root", rt), ("names", .ref tn)]))) s = some (.ins CH dx [("root", rt), ("names", .ref tn), ("_kinds", .ref tk')]) ∧ Kh CH H4 (upd H6 s (.ins CH dx (putF "_kinds" (.ref tk) [("root", rt), ("names", .ref tn)]))) ∧ But s H4 (upd H6 s (.ins CH dx (putF "_kinds" (.ref tk) [("root", rt), ("names", .ref tn)]))) ∧ SqT K (upd H6 s (.ins CH dx (putF "_kinds" (.ref tk) [("root", rt), ("names", .ref tn)]))) tk' xs := by
          intro tk H6 h6 k6 b6 t6
          exact ⟨v5, tk, rfl, upd_same, k6.trans (Kh.put h6), fun b o n e => by rw [upd_ne n]; exact b6 b o n e, (Kh.put h6).sqT t6⟩
        rcases sq5 with sq5 | sq5
        · refine ⟨_, rfl, l, xs, rfl, .inl ⟨sq5, fun tk htk => ?_⟩⟩
          have sn : Same H5 (upd H5 tk (.tup xs)) := same_new htk
          exact ⟨_, rfl, s, CH, dx, _, rfl, sn _ _ hs5, HC.cl, HC.no _ (by simp), (by show 2 < 1000; decide), fin tk _ (sn _ _ hs5) (k5.trans (.of sn)) (fun b o n e => sn _ _ (b5 b o n e)) (SqT.of upd_same)⟩
        · exact ⟨_, rfl, l, xs, rfl, .inr ⟨sq5, _, rfl, s, CH, dx, _, rfl, hs5, HC.cl, HC.no _ (by simp), (by show 2 < 1000; decide), fin l _ hs5 k5 b5 sq5⟩⟩
      · rintro σ H6 ⟨v6, tk, rfl, hs6, k6, b6, ht6⟩
        refine ⟨_, rfl, _, rfl, s, CH, dx, _, rfl, hs6, HC.cl, HC.no _ (by simp), (by show 3 < 1000; decide), ?_⟩
        rw [pf3]
        have k7 := k6.trans (Kh.put (dx' := dx) (fs' := [("root", rt), ("names", .ref tn), ("_kinds", .ref tk), ("_by_name", .ref dd)]) hs6)
        have b7 : But s H4 (upd H6 s (.ins CH dx [("root", rt), ("names", .ref tn), ("_kinds", .ref tk), ("_by_name", .ref dd)])) := fun b o n e => by rw [upd_ne n]; exact b6 b o n e
        have ht7 := (Kh.put (dx' := dx) (fs' := [("root", rt), ("names", .ref tn), ("_kinds", .ref tk), ("_by_name", .ref dd)]) hs6).sqT ht6
        have hs7 : (upd H6 s (.ins CH dx [("root", rt), ("names", .ref tn), ("_kinds", .ref tk), ("_by_name", .ref dd)])) s = some (.ins CH dx [("root", rt), ("names", .ref tn), ("_kinds", .ref tk), ("_by_name", .ref dd)]) := upd_same
        generalize upd H6 s (.ins CH dx [("root", rt), ("names", .ref tn), ("_kinds", .ref tk), ("_by_name", .ref dd)]) = H7 at k7 b7 ht7 hs7 ⊢
        have hT7 := k7.sqT hT4
        have hd7 := hd4.kh (fun _ _ => rK_kh nF nK k7) k7
        have n12 : (ks.map (·.n)).length ≤ 1000 := by rw [List.length_map]; exact few
        -- _fields
        have fld : ∀ H' n, Same H7 H' → n ∈ ks.map (·.n) → ∃ x a, x ∈ ks ∧ x.n = n ∧ atName ks n = some x ∧ DGet H' dd (.str n) (some (.ref a)) ∧ rK K CF CK H' (.ref a) x := by
          intro H' n s' mn
          obtain ⟨i, u, z, hn, hz, r, g⟩ := (hd7.same (dK K CF CK) s').get mn
          obtain ⟨ez, fz⟩ := at_name al.nd hn hz
          obtain ⟨a, _, _, rfl, _⟩ := id r
          exact ⟨z, a, List.mem_of_getElem? hz, ez, fz, g, r⟩
        have e1 : (ks.map (·.n)).map (fun n => ((atName ks n).map (allF ks)).getD []) = ks.map (allF ks) := by
          rw [List.map_map]
          refine List.map_congr_left fun x mx => ?_
          show ((atName ks x.n).map (allF ks)).getD [] = _
          rw [atName_of al.nd mx]
          rfl
        refine ⟨_, rfl, tn, rfl, ⟨_, hT7⟩, fun Df hDf => ?_⟩
        refine dc_sieve (dTF K CF) (fun n => ((atName ks n).map (allF ks)).getD []) (ns := ks.map (fun z => KD.n z)) al.nd n12 hT7 (by show 6 < 7; decide) hDf ?_ ?_
        · intro n H8 Rq mn s8 kk
          obtain ⟨x, a, mx, ex, at_, g, r⟩ := fld H8 n s8 mn
          refine ⟨_, rfl, _, rfl, dd, _, rfl, g, _, rfl, .ref a, dd, x, ks, rfl, r, hd7.same (dK K CF CK) s8, al.nd, fun b eb => al.base mx eb, Nat.le_trans (al.few mx) (by decide), fun t H9 s9 ht => kk (.ref t) H9 s9 ⟨t, rfl, ?_⟩⟩
          rw [at_]
          exact ht
        intro H8 s8 hf8
        rw [e1] at hf8
        have k8 : Kh CH H4 H8 := k7.trans (.of s8)
        refine ⟨_, rfl, s, CH, dx, _, rfl, s8 _ _ hs7, HC.cl, HC.no _ (by simp), (by show 4 < 1000; decide), ?_⟩
        rw [pf4]
        have p9 : Kh CH H8 (upd H8 s (.ins CH dx [("root", rt), ("names", .ref tn), ("_kinds", .ref tk), ("_by_name", .ref dd), ("_fields", .ref Df)])) := Kh.put (s8 _ _ hs7)
        have b9 : But s H4 (upd H8 s (.ins CH dx [("root", rt), ("names", .ref tn), ("_kinds", .ref tk), ("_by_name", .ref dd), ("_fields", .ref Df)])) := fun b o n e => by rw [upd_ne n]; exact s8 _ _ (b7 b o n e)
        have hs9 : (upd H8 s (.ins CH dx [("root", rt), ("names", .ref tn), ("_kinds", .ref tk), ("_by_name", .ref dd), ("_fields", .ref Df)])) s = some (.ins CH dx [("root", rt), ("names", .ref tn), ("_kinds", .ref tk), ("_by_name", .ref dd), ("_fields", .ref Df)]) := upd_same
        generalize upd H8 s (.ins CH dx [("root", rt), ("names", .ref tn), ("_kinds", .ref tk), ("_by_name", .ref dd), ("_fields", .ref Df)]) = H9 at p9 b9 hs9 ⊢
        have k9 := k8.trans p9
        have hT9 := k9.sqT hT4
        have hd9 := hd4.kh (fun _ _ => rK_kh nF nK k9) k9
        have hf9 := hf8.kh (fun _ _ => rTF_kh nF p9) p9
        -- _leads
        refine ⟨_, rfl, tn, rfl, ⟨_, hT9⟩, fun Dl hDl => ?_⟩
        refine dc_sieve dL (leadOf ks) (ns := ks.map (fun z => KD.n z)) al.nd n12 hT9 (by show 6 < 7; decide) hDl ?_ ?_
        · intro n H10 Rq mn s10 kk
          obtain ⟨x, mx, rfl⟩ := List.mem_map.mp mn
          refine ⟨_, rfl, s, dx, _, rfl, s10 _ _ hs9, rfl, _, rfl, s, x.n, dx, dd, Df, tn, _, ks, x, rfl, s10 _ _ hs9, rfl, rfl, rfl, rfl, hd9.same (dK K CF CK) s10, al.nd, hf9.same (dTF K CF) s10, s10.sqT hT9, mx, rfl, rok.aim, fun y my => al.few my, k12, fun D H' s' hD' => kk (.ref D) H' s' ⟨D, rfl, ?_⟩⟩
          unfold leadOf
          rw [atName_of al.nd mx]
          exact hD'
        intro H10 s10 hl10
        refine ⟨_, rfl, s, CH, dx, _, rfl, s10 _ _ hs9, HC.cl, HC.no _ (by simp), (by show 5 < 1000; decide), ?_⟩
        rw [pf5]
        have p11 : Kh CH H10 (upd H10 s (.ins CH dx [("root", rt), ("names", .ref tn), ("_kinds", .ref tk), ("_by_name", .ref dd), ("_fields", .ref Df), ("_leads", .ref Dl)])) := Kh.put (s10 _ _ hs9)
        have b11 : But s H4 (upd H10 s (.ins CH dx [("root", rt), ("names", .ref tn), ("_kinds", .ref tk), ("_by_name", .ref dd), ("_fields", .ref Df), ("_leads", .ref Dl)])) := fun b o n e => by rw [upd_ne n]; exact s10 _ _ (b9 b o n e)
        have hs11 : (upd H10 s (.ins CH dx [("root", rt), ("names", .ref tn), ("_kinds", .ref tk), ("_by_name", .ref dd), ("_fields", .ref Df), ("_leads", .ref Dl)])) s = some (.ins CH dx [("root", rt), ("names", .ref tn), ("_kinds", .ref tk), ("_by_name", .ref dd), ("_fields", .ref Df), ("_leads", .ref Dl)]) := upd_same
        generalize upd H10 s (.ins CH dx [("root", rt), ("names", .ref tn), ("_kinds", .ref tk), ("_by_name", .ref dd), ("_fields", .ref Df), ("_leads", .ref Dl)]) = H11 at p11 b11 hs11 ⊢
        have p911 : Kh CH H9 H11 := Kh.trans (.of s10) p11
        have k11 := k9.trans p911
        have hT11 := k11.sqT hT4
        have hl11 := hl10.kh (fun _ _ => rL_kh p11) p11
        -- _far
        refine ⟨_, rfl, tn, rfl, ⟨_, hT11⟩, fun Dr hDr => ?_⟩
        refine dc_sieve dL (farK ks) (ns := ks.map (fun z => KD.n z)) al.nd n12 hT11 (by show 6 < 7; decide) hDr ?_ ?_
        · intro n H12 Rq mn s12 kk
          exact ⟨_, rfl, _, rfl, s, CH, dx, _, _, rfl, s12 _ _ hs11, HC.cl, HC.no _ (by simp), rfl, n, Dl, ks.map (fun z => KD.n z), leadOf ks, rfl, hl11.same dL s12, al.leads k12, mn, fun D H' s' hD' => kk (.ref D) H' s' ⟨D, rfl, hD'⟩⟩
        intro H12 s12 hr12
        refine ⟨_, rfl, s, CH, dx, _, rfl, s12 _ _ hs11, HC.cl, HC.no _ (by simp), (by show 6 < 1000; decide), ?_⟩
        rw [pf6]
        have p13 : Kh CH H12 (upd H12 s (.ins CH dx (fsH (rt) (.ref tn) (.ref tk) (.ref dd) (.ref Df) (.ref Dl) (.ref Dr)))) := Kh.put (s12 _ _ hs11)
        have b13 : But s H4 (upd H12 s (.ins CH dx (fsH (rt) (.ref tn) (.ref tk) (.ref dd) (.ref Df) (.ref Dl) (.ref Dr)))) := fun b o n e => by rw [upd_ne n]; exact s12 _ _ (b11 b o n e)
        have hs13 : (upd H12 s (.ins CH dx (fsH (rt) (.ref tn) (.ref tk) (.ref dd) (.ref Df) (.ref Dl) (.ref Dr)))) s = some (.ins CH dx (fsH (rt) (.ref tn) (.ref tk) (.ref dd) (.ref Df) (.ref Dl) (.ref Dr))) := upd_same
        generalize upd H12 s (.ins CH dx (fsH (rt) (.ref tn) (.ref tk) (.ref dd) (.ref Df) (.ref Dl) (.ref Dr))) = H13 at p13 b13 hs13 ⊢
        have p1113 : Kh CH H11 H13 := Kh.trans (.of s12) p13
        have p913 := p911.trans p1113
        have k13 := k9.trans p913
        have p713 : Kh CH H7 H13 := Kh.trans (.of s8) (p9.trans p913)
        have hT13 := k13.sqT hT4
        have hd13 := hd4.kh (fun _ _ => rK_kh nF nK k13) k13
        have hf13 := hf9.kh (fun _ _ => rTF_kh nF p913) p913
        have hl13 := hl11.kh (fun _ _ => rL_kh p1113) p1113
        have hr13 := hr12.kh (fun _ _ => rL_kh p13) p13
        have ht13 : TuK K (rK K CF CK) H13 tk ks := ⟨xs, p713.sqT ht7, ev4.1, fun i x c a b => rK_kh nF nK k13 (ev4.2 i x c a b)⟩
        refine ⟨_, rfl, s, dx, _, rfl, hs13, rfl, s, dx, dd, Dr, tn, _, ks, rfl, hs13, rfl, rfl, rfl, hd13, al.nd, k12, hr13, hT13, fun n mn => ?_, fun fz H14 s14 => ?_, fun i x hx ef nf H14 e s14 he => ?_⟩
        · have q := far_mem (ns := ks.map (fun z => KD.n z)) (L := leadOf ks) (n := n)
          exact ⟨Nat.le_trans q.2 (by rw [List.length_map]; exact k12), q.1⟩
        · have b14 : But s H H14 := fun b o n e => s14 _ _ (b13 b o n (s04 _ _ e))
          have bad : ¬ RootIs ks rt → ∀ {H7 : Hp}, Same H14 H7 → ∀ {e : Addr}, H7 e = none → E (.ref CB) (some e) (upd H7 e (.xd [("name", rt)])) := fun n {H7} s7 {e} he => kE _ _ e (.root al fz n) (fun b o m g => same_new he _ _ (s7 _ _ (b14 b o m g))) upd_same
          refine ⟨_, rfl, _, rfl, tn, _, rfl, .inr (s14.sqT hT13), fv, flat_strs _, _, rfl, ?_⟩
          cases ei : inV rt ((ks.map (fun z => KD.n z)).map V.str) with
          | false =>
            refine iteT (iteT ⟨_, rfl, rs1 (Q := E) fun d0 nd => bad (fun ⟨x, mx, ex, _⟩ => ?_) (Same.refl _) nd⟩)
            rw [in_strs.mpr ⟨x.n, List.mem_map_of_mem mx, ex⟩] at ei
            cases ei
          | true =>
            obtain ⟨nm, mr, rfl⟩ := in_strs.mp ei
            obtain ⟨x, mx, ex⟩ := List.mem_map.mp mr
            obtain ⟨i, u, z, hn, hz, ⟨a, dz, tz, rfl, haz, _⟩, g⟩ := (hd13.same (dK K CF CK) s14).get mr
            obtain ⟨ez, fz2⟩ := at_name al.nd hn hz
            have zx : z = x := by
              have := atName_of al.nd mx
              unfold atName at this
              rw [ex, fz2] at this
              exact Option.some.inj this
            subst zx
            refine iteF ⟨_, rfl, _, rfl, dd, _, rfl, g, a, CK, dz, _, _, rfl, haz, C.cl, C.no _ (by simp), (lk_ks _ _ _ _ _ _ _).2.2.2.2.2.1, ?_⟩
            cases ek : z.k with
            | some q =>
              refine ⟨_, rfl, iteT ⟨_, rfl, rs1 (Q := E) fun d0 nd => bad (fun ⟨y, my, ey, hy⟩ => ?_) (Same.refl _) nd⟩⟩
              injection ey with ey
              have h1 := atName_of al.nd mx
              have h2 := atName_of al.nd my
              rw [ex] at h1
              rw [← ey, h1] at h2
              cases h2
              rw [ek] at hy
              cases hy
            | none =>
              have root : RootIs ks (.str nm) := ⟨z, mx, by rw [ex], ek⟩
              refine ⟨_, rfl, iteF (k nm H14 (.ok al fz root) rfl b14 ⟨⟨dx, tn, tk, dd, Df, Dl, Dr, s14 _ _ hs13, s14.sqT hT13, ⟨xs, s14.sqT (p713.sqT ht7), ev4.1, fun i x c a b => dK K CF CK _ _ _ _ (.of s14) (rK_kh nF nK k13 (ev4.2 i x c a b))⟩, hd13.same (dK K CF CK) s14, hf13.same (dTF K CF) s14, hl13.same dL s14, hr13.same dL s14⟩, n1, k12, al, fz, z, mx, ex, ek⟩ ⟨dx, _, tk, s14 _ _ hs13, rfl, s14.sqT (p713.sqT ht7)⟩)⟩
        · exact kE _ H14 e (.frz hx al ef nf) (fun b o n g => s14 _ _ (b13 b o n (s04 _ _ g))) he
end
end Wh
set_option Elab.async false
set_option linter.all false
set_option maxRecDepth 100000
set_option maxHeartbeats 4000000
namespace Wh
open PySem PySem.Spec PyProof.Rows L2
open Wp hiding Same.refl Same.trans same_new boot_all run_own
open W8 (Ev Rp Kp Mono same_new take_snoc rW rB mW mB ev_words ev_words_eq ev_bools_eq lc_sieve)
/-! ## what a house of rows tells -/
theorem takesN0 {X : Cx} : L2N.Takes X (fun _ _ _ _ => False) := fun _ _ ⟨_, _, _, _, _, _, _, _, _, _, _, _, _, _, _, _, z⟩ => z.elim
section
variable {X : Cx} {CX : CXT} {k : Nat} {f C : Addr} {fd : FuncData} {ps : List Str} {sp : Sp} {E : L2.St → XK} {x : Str} {p pos : Pos} {e : Expr} {es : List Expr} {t : TA}
/-- making an instance, where what may come out hangs on the locals -/
def tMakeS (C : Addr) (sp : Sp) (E : L2.St → XK) (t : TA) : TE := fun σ H Q => t σ H fun vs H1 => ∀ x dx, H1 x = none → H1 dx = none → dx ≠ x →
  sp (.ref x :: vs) (upd (upd H1 dx (.own x)) x (.ins C dx [])) (fun v H2 => v = .non ∧ Q (.ref x) H2) (E σ)
theorem pe_makeS (M : Mk X.K C f) (F : FnOk X.prog X.w X.K X.mg X.base CX k f fd ps sp) (hr : Room (k + 1) X.A) (hg : Gl X x) (hm : X.mg x = some (.ref C)) (hb : Binds X.K fd ps []) (hx : ∀ σ, PassesAt CX X σ (E σ))
    (ha : PA X (e :: es) t) (hdb : (x == ("__debug__" : Str)) = false := by decide) (he : starEach (e :: es) X.env = (false, eval e X.env) :: starEach es X.env := by rfl) (hpl : (backTo pos (starEach es X.env)).any (·.1) = false := by rfl) :
    PE X (.Call (.Name x p) (e :: es) [] pos) (tMakeS C sp E t) := by
  refine ⟨fun pins s σ H Q I h => wpAny_Call_Name_kw (ld_glob I hg hm ?_ hdb)⟩
  refine PySem.W.callWith_K (h₀ := X.base) I.ok.mod.kin M.kp (thn (ha.run pos pins s σ H _ I h) fun us s1 ⟨vs, H1, I1, r, q⟩ => ⟨I1.kIn, ?_⟩) he hpl
  have fresh := q (s1.heap.objs.size + 1) s1.heap.objs.size (I1.hok.fresh (Nat.le_succ _)) (I1.hok.fresh (Nat.le_refl _)) (Nat.ne_of_lt (Nat.lt_succ_self _))
  have J := Inv.made (C := C) I1
  have rs : Vals (V.ref (s1.heap.objs.size + 1) :: vs) (Value.ref (s1.heap.objs.size + 1) :: us) := .cons rfl r
  have len : (Value.ref (s1.heap.objs.size + 1) :: us).length = ps.length := rs.length.symm.trans (F.len _ _ _ _ fresh)
  have b := hb _ (Value.ref (s1.heap.objs.size + 1) :: us) J.kIn (by rw [List.append_nil]; exact len)
  rw [List.append_nil] at b
  refine wpAny_call (make_map (f := f) I1.kIn M.makes M.init (beq_iff_eq.mp M.fn) (codeAny_mono (F.run _ X.stack _ _ ⟨_ :: us, []⟩ (_ :: us) _ _ (E σ) (hr.make C us []) (J.env0.make C us []) b rs fresh) ?_))
  rintro (er | (_ | _ | _ | u)) s2 got
  · exact hx σ pins _ _ er s2 J got
  · exact got.elim
  · exact got.elim
  · exact got.elim
  · obtain ⟨v, H', I3, rv, ev, q3⟩ := J.after got
    subst ev
    exact ⟨rv, ⟨V.ref (s1.heap.objs.size + 1), H', I3, rfl, q3⟩⟩
end
structure MkHB (P : Program) (w : World) (K : PySem.W.Frag) (mg : Str → Option Value) (base : Heap) (CF CK CH CB fI : Addr) (fdI : FuncData) : Prop where
  ok : FnOk P w K mg base (L2N.CX P w) 4 fI fdI ["self", "root", "kinds"] (spHIB K CF CK CH CB)
  made : Mk K CH fI
  gl : mg "House" = some (.ref CH)
  bi : Binds K fdI ["self", "root", "kinds"] []
theorem made_but {C a da : Addr} {H H' : Hp} (ha : H a = none) (hda : H da = none) (b : But a (upd (upd H da (.own a)) a (.ins C da [])) H') : Same H H' := fun c o e => by
  have n1 : c ≠ a := fun z => by rw [z, ha] at e; cases e
  have n2 : c ≠ da := fun z => by rw [z, hda] at e; cases e
  exact b c o n1 (by rw [upd_ne n1, upd_ne n2]; exact e)
end Wh
set_option Elab.async false
set_option linter.all false
set_option maxRecDepth 100000
set_option maxHeartbeats 4000000
/-! `in` of a list, == of two tuples, by the items' own ==, with either answer. -/
namespace GB
open PySem PySem.SeqAt
open AutoSeq1 (wpAny_loadPart')
open MeetsSeq MeetsSeq2 MeetsSeq3 SeqRoads2
open GQ (FinOf call_here)
section
variable {prog : Program} {w : World} {A : Around} {R : Result → Shared → Prop}
/-- at each turn the list stands as it stood -/
def Stands (l : Addr) (T : String) (items : Array Value) (J : Shared → Prop) : Prop := ∀ s, J s → ∃ dd n sl, s.heap.get? l = some { cls := .type T, dict := dd, data := .seq items n, slots := sl }
theorem contains_loopJ (l : Addr) (items : Array Value) (x : Value) (e : Nat → Bool) (J : Shared → Prop) (hl : Stands l "list" items J)
    (he : ∀ i (h : i < items.size) s, J s → wpAny (model prog w) A.in1 (eqBool items[i] x) (fun r s' => r = e i ∧ J s') (fun e s' => R (.error e) s') s)
    (fin : ∀ s, J s → R (.ok (.ret (.bool ((List.range items.size).any e)))) s) (k : Nat) :
    ∀ i : Nat, items.size - i = k → i ≤ items.size → (∀ j, j < i → e j = false) → ∀ s, J s →
      wpAny (model prog w) A.in1 (Builtin.«list.__contains__.loop» ⟨[.ref l, x, rawInt i], []⟩) (FinOf prog w A R) (fun e s' => R (.error e) s') s := by
  induction k with
  | zero =>
    intro i hk hi no s h
    obtain ⟨dd, n, sl, hl1⟩ := hl _ h
    have hi' : i = items.size := by omega
    have hany : (List.range items.size).any e = false := by
      rw [List.any_eq_false]
      intro j hj
      rw [no j (by rw [hi']; exact List.mem_range.mp hj)]
      exact Bool.false_ne_true
    have hR := fin s h
    rw [hany] at hR
    obtain ⟨hp, g, d, tk, os⟩ := s
    wp_walk using wpAny_loadPart' hl1
    have hi1 : items[((i : Nat) : Int).toNat]? = none := by simp; omega
    rw [hi1]
    wp_walk
    exact hR
  | succ k ih =>
    intro i hk hi no s h
    obtain ⟨dd, n, sl, hl1⟩ := hl _ h
    have hlt : i < items.size := by omega
    have ht := he i hlt s h
    obtain ⟨hp, g, d, tk, os⟩ := s
    wp_walk using wpAny_loadPart' hl1
    have hi1 : items[((i : Nat) : Int).toNat]? = some items[i] := by simp [hlt]
    have hc : ((i : Int) + 1) = ((i + 1 : Nat) : Int) := by omega
    rw [hi1]
    refine wpAny_bind (wpAny_mono ht (fun r s2 h2 => ?_) fun _ _ x => x)
    obtain ⟨hr, h2⟩ := h2
    subst hr
    cases he' : e i with
    | true =>
      have hany : (List.range items.size).any e = true := List.any_eq_true.mpr ⟨i, List.mem_range.mpr hlt, he'⟩
      have hR := fin s2 h2
      rw [hany] at hR
      obtain ⟨hp2, g2, d2, tk2, os2⟩ := s2
      wp_walk
      exact hR
    | false =>
      have hrec := ih (i + 1) (by omega) (by omega) (fun j hj => by
        rcases Nat.lt_or_ge j i with q | q
        · exact no j q
        · rw [show j = i by omega]; exact he') s2 h2
      obtain ⟨hp2, g2, d2, tk2, os2⟩ := s2
      wp_walk
      rw [hc]
      exact ⟨plainId_quiet plain_contains_loop _, codeAny_builtin entry_contains_loop (by
        rw [Around.under_plainId plain_contains_loop _]
        exact hrec)⟩
theorem list_containsJ (l : Addr) (items : Array Value) (x : Value) (e : Nat → Bool) (J : Shared → Prop) (hl : Stands l "list" items J)
    (he : ∀ i (h : i < items.size) s, J s → wpAny (model prog w) A.in1 (eqBool items[i] x) (fun r s' => r = e i ∧ J s') (fun e s' => R (.error e) s') s)
    (fin : ∀ s, J s → R (.ok (.ret (.bool ((List.range items.size).any e)))) s) {s : Shared} (h : J s) :
    wpAny (model prog w) A.in1 (Builtin.«list.__contains__» ⟨[.ref l, x], []⟩) (FinOf prog w A R) (fun e s' => R (.error e) s') s := by
  obtain ⟨dd, n, sl, hl1⟩ := hl _ h
  have hrec := contains_loopJ (A := A) (R := R) l items x e J hl he fin _ 0 rfl (Nat.zero_le _) (fun j hj => absurd hj (Nat.not_lt_zero _)) s h
  obtain ⟨hp, g, d, tk, os⟩ := s
  wp_walk using wpAny_loadPart' hl1
  exact ⟨plainId_quiet plain_contains_loop _, codeAny_builtin entry_contains_loop (by
    rw [Around.under_plainId plain_contains_loop _]
    exact hrec)⟩
theorem tuple_eqJ (l b : Addr) (items items2 : Array Value) (e : Nat → Bool) (J : Shared → Prop) (hl : Stands l "tuple" items J) (hb : Stands b "tuple" items2 J)
    (he : ∀ i (h1 : i < items.size) (h2 : i < items2.size) s, J s → wpAny (model prog w) A.in1 (eqBool items[i] items2[i]) (fun r s' => r = e i ∧ J s') (fun e s' => R (.error e) s') s)
    (fin : ∀ s, J s → R (.ok (.ret (.bool ((List.range (min items.size items2.size)).all e && items.size == items2.size)))) s) {s : Shared} (h : J s) :
    wpAny (model prog w) A.in1 (Builtin.«tuple.__eq__» ⟨[.ref l, .ref b], []⟩) (FinOf prog w A R) (fun e s' => R (.error e) s') s := by
  obtain ⟨dd, n, sl, hl1⟩ := hl _ h
  obtain ⟨dd2, n2, sl2, hb1⟩ := hb _ h
  have f2 := AutoSeq1.sub_tuple_tuple
  have hZ : (items.toList.zip items2.toList).length = min items.size items2.size := by simp
  have h0 := h
  obtain ⟨hp, g, d, tk, os⟩ := s
  wp_walk using wpAny_loadPart' hl1, wpAny_loadPart' hb1, wpAny_forIn_list _ (fun rest b s' => b.1 = none ∧ J s' ∧ ∃ i, rest = (items.toList.zip items2.toList).drop i ∧
      (∀ s, J s → R (.ok (.ret (.bool (((List.range (min items.size items2.size)).drop i).all e && items.size == items2.size)))) s)) _
  case turn =>
    rintro ⟨y, x⟩ rest b s' ⟨hb', hJ, i, hz, hR⟩
    have hlt : i < (items.toList.zip items2.toList).length := by
      rcases Nat.lt_or_ge i (items.toList.zip items2.toList).length with h' | h'
      · exact h'
      · rw [List.drop_of_length_le h'] at hz; cases hz
    have hm : i < min items.size items2.size := hZ ▸ hlt
    have h1 : i < items.size := Nat.lt_of_lt_of_le hm (Nat.min_le_left _ _)
    have h2 : i < items2.size := Nat.lt_of_lt_of_le hm (Nat.min_le_right _ _)
    rw [List.drop_eq_getElem_cons hlt] at hz
    injection hz with hyx hrest
    have hy : y = items[i] := by have := congrArg Prod.fst hyx; simpa using this
    have hx : x = items2[i] := by have := congrArg Prod.snd hyx; simpa using this
    subst hy hx
    have hd : (List.range (min items.size items2.size)).drop i = i :: (List.range (min items.size items2.size)).drop (i + 1) := by simp [List.drop_eq_getElem_cons, hm]
    rw [hd, List.all_cons] at hR
    refine wpAny_bind (wpAny_mono (he i h1 h2 s' hJ) (fun r s2 q2 => ?_) fun _ _ x => x)
    obtain ⟨hr, q2⟩ := q2
    subst hr
    cases hy : e i with
    | true =>
      rw [hy] at hR
      wp_walk
      exact ⟨rfl, q2, i + 1, hrest, fun s3 q3 => by simpa using hR s3 q3⟩
    | false =>
      rw [hy] at hR
      have hR2 := hR s2 q2
      wp_walk
      simpa using hR2
  case fin =>
    rintro ⟨b1, b2⟩ s' ⟨hb', hJ, i, hz, hR⟩
    simp only at hb'
    subst hb'
    have hge : min items.size items2.size ≤ i := by
      rcases Nat.lt_or_ge i (items.toList.zip items2.toList).length with h' | h'
      · rw [List.drop_eq_getElem_cons h'] at hz; cases hz
      · exact hZ ▸ h'
    have hR2 := hR s' hJ
    rw [List.drop_of_length_le (by simpa using hge)] at hR2
    wp_walk
    simpa [Builtin.Tuple.tupleCompareSizes] using hR2
  case h =>
    exact ⟨rfl, h0, 0, rfl, fun s q => by simpa using fin s q⟩
end
section
variable {prog : Program} {w : World} {A : Around} {E : Value → Shared → Prop} {s : Shared}
/-- in a list inside the operator -/
theorem contains_J {l : Addr} {items : Array Value} {x : Value} {e : Nat → Bool} {J : Shared → Prop} {Q : Bool → Shared → Prop} (hl : Stands l "list" items J)
    (he : ∀ i (h : i < items.size) s, J s → wpAny (model prog w) A.in1 (eqBool items[i] x) (fun r s' => r = e i ∧ J s') E s)
    (fin : ∀ s, J s → Q ((List.range items.size).any e) s) (h : J s) : wpAny (model prog w) A (contains (.ref l) x) Q E s := by
  obtain ⟨dd, n, sl, hl1⟩ := hl _ h
  refine wpAny_contains_slot (Q := Q) ⟨_, hl1, rfl⟩ F.slot_list_contains (wpAny_mono (Q := fun v s' => ∃ b, v = .bool b ∧ Q b s') (call_here F.slot_list_contains ⟨_, hl1, rfl⟩ F.entry_list_contains (F.args_list_contains_2 _ _) ?_) (fun v s' hv => ?_) fun _ _ e => e)
  · exact list_containsJ (R := wants (fun v s' => ∃ b, v = .bool b ∧ Q b s') E) l items x e J hl he (fun s q => ⟨_, rfl, fin s q⟩) h
  · obtain ⟨b, rfl, hq⟩ := hv
    exact wpAny_truthy_bool hq
theorem rc_tupJ {l b : Addr} {items items2 : Array Value} {e : Nat → Bool} {J : Shared → Prop} {Q : Value → Shared → Prop} (hu : A.units < cLine) (hl : Stands l "tuple" items J) (hb : Stands b "tuple" items2 J)
    (he : ∀ i (h1 : i < items.size) (h2 : i < items2.size) s, J s → wpAny (model prog w) A.in1 (eqBool items[i] items2[i]) (fun r s' => r = e i ∧ J s') E s)
    (fin : ∀ s, J s → Q (.bool ((List.range (min items.size items2.size)).all e && items.size == items2.size)) s) (h : J s) : wpAny (model prog w) A (richCompare .Eq (.ref l) (.ref b)) Q E s := by
  obtain ⟨dd, n, sl, hl1⟩ := hl _ h
  obtain ⟨dd2, n2, sl2, hb1⟩ := hb _ h
  refine wpAny_richCompare_same_room (op := .Eq) ⟨_, hl1, rfl⟩ ⟨_, hb1, rfl⟩ F.slot_tuple_eq (call_here F.slot_tuple_eq ⟨_, hl1, rfl⟩ F.entry_tuple_eq (F.args_tuple_eq_2 _ _) ?_) hu
  exact tuple_eqJ (R := wants (fun v s' => v ≠ .notImplemented ∧ Q v s') E) l b items items2 e J hl hb he (fun s q => ⟨(fun x => nomatch x), fin s q⟩) h
end
end GB
namespace Wp
open PySem PySem.Spec PyProof.Rows L2
open PySem.W (InstAt Looks findIn isFn mroIn notFirst)
open SeqAt
theorem vals_refs : ∀ {zs : List Addr} {us : List Value}, Vals (zs.map V.ref) us → us = zs.map Value.ref
  | [], _, .nil => rfl
  | z :: zs, _, .cons a r => by
    cases a
    rw [vals_refs r]
    rfl
/-- what == of two own things inside a builtin answers: k, and nothing that is tracked changes -/
def Answ (K : PySem.W.Frag) (C : Addr) (sp : Sp) (E : XK) (H : Hp) (a b : Addr) (k : Bool) : Prop := ∃ (dx : Addr) (fs : List (Str × V)) (D dy : Addr) (gs : List (Str × V)), H a = some (.ins C dx fs) ∧ H b = some (.ins D dy gs) ∧ notFirst K C (.ref D) = true ∧
  (a = b → k = true) ∧ sp [.ref a, .ref b] H (fun v H' => v = .bl k ∧ H' = H) E
section
variable {X : Cx} {CX : CXT} {n : Nat} {C f : Addr} {fd : FuncData} {ps : List Str} {sp : Sp} {E : XK}
theorem eqb_own (F : FnOk X.prog X.w X.K X.mg X.base CX n f fd ps sp) (hb : Binds X.K fd ps []) (hx : Passes CX X E) (O : OwnEqual X.K C f) {A : Around} {pins : List (Addr × Obj)} {σ : L2.St} {H : Hp} {s : Shared} {a b : Addr} {k : Bool} (sb : Sub X n A)
    (I : Inv X pins σ H s) (d : Answ X.K C sp E H a b k) : wpAny (model X.prog X.w) A (eqBool (.ref a) (.ref b)) (fun r s' => r = k ∧ Inv X pins σ H s') X.xe s := by
  obtain ⟨dx, fs, D, dy, gs, ha, hb', nf, same, p⟩ := d
  by_cases hab : a = b
  · have hk := same hab
    subst hk hab
    exact SeqAt.EqAt.same (A := A) (s := s) (.ref a) X.prog X.w X.xe _ ⟨rfl, I⟩
  · refine GQ.eqBool_refG hab ?_
    obtain ⟨mA, J, _⟩ := ins_get I.hok ha
    obtain ⟨od, J, _⟩ := J.look
    obtain ⟨mB, J', _⟩ := ins_get I.hok hb'
    obtain ⟨od', J', _⟩ := J'.look
    obtain ⟨m, fr⟩ := I.fr
    refine PySem.W.cmp_K (op := .Eq) sb.room.units0 fr I.ok.mod.kin J J'.type nf O.eq O.fn ?_
    refine wpAny_mono (run_own F hb hx sb.room sb.fr I (ys := [.ref a, .ref b]) (.cons (show L2.RelV (.ref a) (.ref a) from rfl) (.cons (show L2.RelV (.ref b) (.ref b) from rfl) .nil)) p) ?_ fun _ _ e => e
    rintro r s2 ⟨z, H2, J2, rz, ez, eH⟩
    subst ez
    cases rz
    rw [eH] at J2
    exact ⟨k, rfl, rfl, J2⟩
theorem stands_list {pins : List (Addr × Obj)} {σ : L2.St} {H : Hp} {l : Addr} {zs : List Addr} (h : SqL X.K H l (zs.map V.ref)) : GB.Stands l "list" (zs.map Value.ref).toArray (Inv X pins σ H) := fun s I => by
  obtain ⟨its, rv, pl, hz⟩ := I.list h
  rw [vals_refs rv] at pl
  obtain ⟨⟨cls, dd, data, sl⟩, ho, hc, n, hd⟩ := pl.isList
  simp only at hc hd
  subst hc hd
  exact ⟨dd, n, sl, ho⟩
theorem stands_tup {pins : List (Addr × Obj)} {σ : L2.St} {H : Hp} {l : Addr} {zs : List Addr} (h : SqT X.K H l (zs.map V.ref)) : GB.Stands l "tuple" (zs.map Value.ref).toArray (Inv X pins σ H) := fun s I => by
  obtain ⟨its, rv, pl, hz⟩ := I.tuple h
  rw [vals_refs rv] at pl
  obtain ⟨⟨cls, dd, data, sl⟩, ho, hc, n, hd⟩ := pl
  simp only at hc hd
  subst hc hd
  exact ⟨dd, n, sl, ho⟩
/-- x in ys, ys a list of own things, by the items' own == -/
def rInOwn (neg : Bool) (K : PySem.W.Frag) (C : Addr) (sp : Sp) (E : XK) : R2 := fun x y H Q => ∃ (b l : Addr) (zs : List Addr) (e : Nat → Bool), x = .ref b ∧ y = .ref l ∧ SqL K H l (zs.map V.ref) ∧
  (∀ i z, zs[i]? = some z → Answ K C sp E H z b (e i)) ∧ Q (.bl (neg != (List.range zs.length).any e)) H
theorem contains_own (F : FnOk X.prog X.w X.K X.mg X.base CX n f fd ps sp) (hb : Binds X.K fd ps []) (hx : Passes CX X E) (O : OwnEqual X.K C f) (hr : Room (n + 1) X.A) {pins : List (Addr × Obj)} {σ : L2.St} {H : Hp} {s : Shared} {b l : Addr} {zs : List Addr} {e : Nat → Bool}
    {Q : Bool → Shared → Prop} (I : Inv X pins σ H s) (hl : SqL X.K H l (zs.map V.ref)) (he : ∀ i z, zs[i]? = some z → Answ X.K C sp E H z b (e i)) (hQ : ∀ s, Inv X pins σ H s → Q ((List.range zs.length).any e) s) :
    wpAny (model X.prog X.w) X.A (contains (.ref l) (.ref b)) Q X.xe s := by
  refine GB.contains_J (stands_list hl) (e := e) (fun i h s' I' => ?_) (fun s' I' => by simpa using hQ s' I') I
  have h' : i < zs.length := by simpa using h
  have hz : (zs.map Value.ref).toArray[i] = Value.ref zs[i] := by simp
  rw [hz]
  exact eqb_own F hb hx O ((⟨hr, rfl⟩ : Sub X (n + 1) X.A).in1) I' (he i _ (List.getElem?_eq_getElem h'))
theorem op_inOwn (F : FnOk X.prog X.w X.K X.mg X.base CX n f fd ps sp) (hb : Binds X.K fd ps []) (hx : Passes CX X E) (O : OwnEqual X.K C f) (hr : Room (n + 1) X.A) : OpR X (compareOp .In) (rInOwn false X.K C sp E) := by
  rintro pins s σ H x y v u Q I rx ry ⟨b, l, zs, e, rfl, rfl, hl, he, q⟩
  cases rx
  cases ry
  show wpAny _ _ (do return Value.bool (← contains (.ref l) (.ref b))) _ _ _
  refine wpAny_bind (contains_own F hb hx O hr I hl he fun s' I' => wpAny_pure ?_)
  exact ⟨_, H, I', (show L2.RelV (.bl _) (.bool _) from rfl), by simpa using q⟩
theorem op_notInOwn (F : FnOk X.prog X.w X.K X.mg X.base CX n f fd ps sp) (hb : Binds X.K fd ps []) (hx : Passes CX X E) (O : OwnEqual X.K C f) (hr : Room (n + 1) X.A) : OpR X (compareOp .NotIn) (rInOwn true X.K C sp E) := by
  rintro pins s σ H x y v u Q I rx ry ⟨b, l, zs, e, rfl, rfl, hl, he, q⟩
  cases rx
  cases ry
  show wpAny _ _ (do return Value.bool (!(← contains (.ref l) (.ref b)))) _ _ _
  refine wpAny_bind (contains_own F hb hx O hr I hl he fun s' I' => wpAny_pure ?_)
  exact ⟨_, H, I', (show L2.RelV (.bl _) (.bool _) from rfl), by simpa using q⟩
/-- xs == ys, two tuples of own things -/
def rEqTO (K : PySem.W.Frag) (C : Addr) (sp : Sp) (E : XK) : R2 := fun x y H Q => ∃ (a b : Addr) (zs ts : List Addr) (e : Nat → Bool), x = .ref a ∧ y = .ref b ∧ SqT K H a (zs.map V.ref) ∧ SqT K H b (ts.map V.ref) ∧
  (∀ i z t, zs[i]? = some z → ts[i]? = some t → Answ K C sp E H z t (e i)) ∧ Q (.bl ((List.range (min zs.length ts.length)).all e && zs.length == ts.length)) H
theorem op_eqTO (F : FnOk X.prog X.w X.K X.mg X.base CX n f fd ps sp) (hb : Binds X.K fd ps []) (hx : Passes CX X E) (O : OwnEqual X.K C f) (hr : Room (n + 1) X.A) : OpR X (compareOp .Eq) (rEqTO X.K C sp E) := by
  rintro pins s σ H x y v u Q I rx ry ⟨a, b, zs, ts, e, rfl, rfl, ha, hb', he, q⟩
  cases rx
  cases ry
  show wpAny _ _ (richCompare .Eq _ _) _ _ _
  refine GB.rc_tupJ (e := e) hr.units0 (stands_tup ha) (stands_tup hb') (fun i h1 h2 s' I' => ?_) (fun s' I' => ?_) I
  · have k1 : i < zs.length := by simpa using h1
    have k2 : i < ts.length := by simpa using h2
    have e1 : (zs.map Value.ref).toArray[i] = Value.ref zs[i] := by simp
    have e2 : (ts.map Value.ref).toArray[i] = Value.ref ts[i] := by simp
    rw [e1, e2]
    exact eqb_own F hb hx O ((⟨hr, rfl⟩ : Sub X (n + 1) X.A).in1) I' (he i _ _ (List.getElem?_eq_getElem k1) (List.getElem?_eq_getElem k2))
  · exact ⟨_, H, I', (show L2.RelV (.bl _) (.bool _) from rfl), by simpa using q⟩
end
end Wp
set_option Elab.async false
set_option linter.all false
set_option maxRecDepth 100000
set_option maxHeartbeats 4000000
namespace Wh
open PySem PySem.Spec PyProof.Rows L2
open Wp hiding Same.refl Same.trans same_new boot_all run_own
open W8 (Ev Rp Kp Mono same_new take_snoc rW rB mW mB ev_words ev_words_eq ev_bools_eq lc_sieve)
/-! ## == of kinds and of houses, either answer -/
structure EqM (P : Program) (w : World) (K : PySem.W.Frag) (mg : Str → Option Value) (base : Heap) (C : Addr) (n : Nat) (sp : Sp) (f : Addr) (fd : FuncData) : Prop where
  ok : FnOk P w K mg base CX0 n f fd ["self", "other"] sp
  bi : Binds K fd ["self", "other"] []
  own : OwnEqual K C f
  nf : PySem.W.notFirst K C (.ref C) = true
theorem refs_of {α : Type} {R : Rp α} {H : Hp} (rf : ∀ v c, R H v c → ∃ a, v = .ref a) : ∀ {xs : List V} {cs : List α}, Ev R H xs cs → ∃ zs : List Addr, xs = zs.map V.ref ∧ zs.length = cs.length ∧ ∀ (i : Nat) z c, zs[i]? = some z → cs[i]? = some c → R H (.ref z) c := by
  intro xs
  induction xs with
  | nil =>
    intro cs e
    exact ⟨[], rfl, e.1, fun i z c h => by simp at h⟩
  | cons x xs ih =>
    intro cs e
    cases cs with
    | nil => cases e.1
    | cons c cs =>
      obtain ⟨a, rfl⟩ := rf _ _ (e.2 0 x c rfl rfl)
      obtain ⟨zs, rfl, l, r⟩ := ih (cs := cs) ⟨by have := e.1; simp at this; simpa using this, fun i x c a b => e.2 (i + 1) x c (by simpa using a) (by simpa using b)⟩
      refine ⟨a :: zs, rfl, by simp [l], fun i z d h1 h2 => ?_⟩
      cases i with
      | zero =>
        simp at h1 h2
        subst h1 h2
        exact e.2 0 _ _ rfl rfl
      | succ i => exact r i z d (by simpa using h1) (by simpa using h2)
theorem all_eq {α : Type} [DecidableEq α] (xs ys : List α) : ((List.range (min xs.length ys.length)).all (fun i => decide (xs[i]? = ys[i]?)) && xs.length == ys.length) = decide (xs = ys) := by
  rw [Bool.eq_iff_iff, Bool.and_eq_true, List.all_eq_true, beq_iff_eq, decide_eq_true_eq]
  constructor
  · rintro ⟨h, l⟩
    refine List.ext_getElem? fun i => ?_
    by_cases li : i < xs.length
    · exact of_decide_eq_true (h i (List.mem_range.mpr (by omega)))
    · rw [List.getElem?_eq_none (by omega), List.getElem?_eq_none (by omega)]
  · rintro rfl
    exact ⟨fun i _ => decide_eq_true rfl, rfl⟩
theorem tv_dec {a b : Option Str} : decide (tv a = tv b) = decide (a = b) := by
  cases a <;> cases b <;> simp [tv]
theorem scal_tv2 (a b : Option Str) : scal (tv a) (tv b) = true := by cases a <;> cases b <;> rfl
section
variable {P : Program} {w : World} {K : PySem.W.Frag} {mg : Str → Option Value} {base : Heap} {CF CK CH : Addr}
/-- a field that was there at H0 -/
def rFo (K : PySem.W.Frag) (CF : Addr) (H0 : Hp) : Rp FV := fun H v x => rF K CF H v x ∧ ∃ a, v = .ref a ∧ H0 a ≠ none
/-- a kind that was there at H0, with its fields -/
def rKo (K : PySem.W.Frag) (CF CK : Addr) (H0 : Hp) : Rp KD := fun H v x => ∃ a dx tf us, v = .ref a ∧ H0 a ≠ none ∧ H a = some (.ins CK dx (fsK (.str x.n) (.ref tf) (tv x.b) (.bl x.f) (.bl x.h) (tv x.k) (.bl x.r))) ∧ SqT K H tf us ∧ Ev (rFo K CF H0) H us x.fs
theorem rKo_of {H0 H : Hp} {v : V} {x : KD} (h : rK K CF CK H0 v x) (s : Stay H0 H) : rKo K CF CK H0 H v x := by
  obtain ⟨a, dx, tf, rfl, ha, us, hus, ev⟩ := h
  refine ⟨a, dx, tf, us, rfl, by rw [ha]; simp, s.i _ _ _ _ ha, s.sqT hus, ev.1, fun i u g h1 h2 => ?_⟩
  obtain ⟨b, rfl, ⟨dy, tw, hb, hw⟩, sh⟩ := ev.2 i u g h1 h2
  exact ⟨⟨b, rfl, ⟨dy, tw, s.i _ _ _ _ hb, s.sqT hw⟩, sh⟩, b, rfl, by rw [hb]; simp⟩
abbrev sKT : Stmt := meth 27 1
abbrev nKT : List Str := ["self", "other"]
def spKT2 (K : PySem.W.Frag) (CF CK : Addr) : Sp := fun vs H Q _ => ∃ (a b : Addr) (x y : KD) (H0 : Hp), vs = [.ref a, .ref b] ∧ rKn K CF CK H0 H (.ref a) x ∧ rKo K CF CK H0 H (.ref b) y ∧ Q (.bl (decide (x = y))) H
theorem scKT : FnScope nKT nKT (defScope sKT) := ⟨rfl, rfl, rfl, by decide +kernel, rfl, by decide +kernel, by decide +kernel⟩
theorem ok_KT2 {f fF : Addr} {fd fdF : FuncData} (F : Fun K "__eq__" "Kind.__eq__" sKT f fd) (B : Bn mg) (O : OwnC K CK) (C : PlainC K CK ["name", "fields", "base", "frozen", "heirs", "key", "registered"]) (gK : mg "Kind" = some (.ref CK)) (FE : EqM P w K mg base CF 1 (spFE K CF) fF fdF) :
    FnOk P w K mg base CX0 3 f fd nKT (spKT2 K CF CK) := by
  refine F.ok scKT (fun vs H Q E h => ?_) (fun cdv A outer s H vs Q E hr h => ?_)
  · obtain ⟨a, b, x, y, H0, rfl, _⟩ := h
    rfl
  · obtain ⟨a, b, x, y, H0, rfl, ⟨_, _, dx, tf, us, e1, _, ha, hus, eu⟩, ⟨_, dy, tg, ws, e2, _, hb, hws, ew⟩, k⟩ := h
    cases e1
    cases e2
    have kf : x ≠ y → Q (.bl false) H := fun n => by rw [decide_eq_false n] at k; exact k
    refine ⟨_, 
      (pss_one (ps_ret (pe_and (pe_callB call_isi (by rfl) B.isi boot_isi (pa_cons (pv 1) (pa_cons (pe_glob (v := .ref CK) (by rfl) gK rfl) pa_nil))) (pe_and (pe_cmpR op_eq (pe_fld (pv 0) rfl) (pe_fld (pv 1) rfl) (nomark _)) (pe_and (pe_cmpR (show OpR _ (compareOp .Eq) (rEqTO K CF (spFE K CF) E0) from op_eqTO FE.ok FE.bi pass0 FE.own (hr.mono (by decide))) (pe_fld (pv 0) rfl) (pe_fld (pv 1) rfl) (nomark _)) (pe_and (pe_cmpR op_eq (pe_fld (pv 0) rfl) (pe_fld (pv 1) rfl) (nomark _)) (pe_and (pe_cmpR op_eq (pe_fld (pv 0) rfl) (pe_fld (pv 1) rfl) (nomark _)) (pe_and (pe_cmpR op_eq (pe_fld (pv 0) rfl) (pe_fld (pv 1) rfl) (nomark _)) (pe_and (pe_cmpR op_eq (pe_fld (pv 0) rfl) (pe_fld (pv 1) rfl) (nomark _)) (pe_one (pe_cmpR op_eq (pe_fld (pv 0) rfl) (pe_fld (pv 1) rfl) (nomark _)))))))))))), ?_⟩
    refine ⟨_, rfl, .ref b, .ref CK, .ref CK, .ref CK, true, rfl, .own CK, O.ty hb, O.self, _, rfl, iteT ?_⟩
    refine ⟨_, rfl, a, CK, dx, _, _, rfl, ha, C.cl, C.no _ (by simp), (lk_ks _ _ _ _ _ _ _).1, _, rfl, b, CK, dy, _, _, rfl, hb, C.cl, C.no _ (by simp), (lk_ks _ _ _ _ _ _ _).1, rfl, _, rfl, ?_⟩
    rw [dec_s]
    by_cases q1 : x.n = y.n
    case neg => rw [decide_eq_false q1]; exact iteF (kf fun e => q1 (congrArg KD.n e))
    rw [decide_eq_true q1]
    refine iteT ⟨_, rfl, a, CK, dx, _, _, rfl, ha, C.cl, C.no _ (by simp), (lk_ks _ _ _ _ _ _ _).2.1, _, rfl, b, CK, dy, _, _, rfl, hb, C.cl, C.no _ (by simp), (lk_ks _ _ _ _ _ _ _).2.1, ?_⟩
    obtain ⟨zs, rfl, lz, rz⟩ := refs_of (R := rFn K CF H0) (fun v c h => let ⟨a, e, _⟩ := h.2; ⟨a, e⟩) eu
    obtain ⟨ts, rfl, lt, rt⟩ := refs_of (R := rFo K CF H0) (fun v c h => let ⟨a, e, _⟩ := h.2; ⟨a, e⟩) ew
    refine ⟨tf, tg, zs, ts, fun i => decide (x.fs[i]? = y.fs[i]?), rfl, rfl, hus, hws, fun i z t h1 h2 => ?_, ?_⟩
    · have li : i < x.fs.length := by
        have := (List.getElem?_eq_some_iff.mp h1).1
        omega
      have lj : i < y.fs.length := by
        have := (List.getElem?_eq_some_iff.mp h2).1
        omega
      obtain ⟨⟨_, e1, fz⟩, ⟨_, e3, n1⟩⟩ := rz i z _ h1 (List.getElem?_eq_getElem li)
      obtain ⟨⟨_, e2, ft⟩, ⟨_, e4, n2⟩⟩ := rt i t _ h2 (List.getElem?_eq_getElem lj)
      cases e1
      cases e2
      cases e3
      cases e4
      obtain ⟨d1, w1, hz, _⟩ := fz.ex
      obtain ⟨d2, w2, ht, _⟩ := ft.ex
      refine ⟨_, _, _, _, _, hz, ht, FE.nf, fun e => absurd (e ▸ n1) n2, z, .ref t, _, rfl, fz, .inl ⟨t, _, rfl, ft, ?_, rfl⟩⟩
      show V.bl _ = V.bl (decide (x.fs[i]? = y.fs[i]?))
      rw [List.getElem?_eq_getElem li, List.getElem?_eq_getElem lj]
      congr 1
      simp
    · rw [show ((List.range (min zs.length ts.length)).all (fun i => decide (x.fs[i]? = y.fs[i]?)) && zs.length == ts.length) = decide (x.fs = y.fs) by rw [lz, lt]; exact all_eq _ _]
      refine ⟨_, rfl, ?_⟩
      by_cases q2 : x.fs = y.fs
      case neg => rw [decide_eq_false q2]; exact iteF (kf fun e => q2 (congrArg KD.fs e))
      rw [decide_eq_true q2]
      refine iteT ⟨_, rfl, a, CK, dx, _, _, rfl, ha, C.cl, C.no _ (by simp), (lk_ks _ _ _ _ _ _ _).2.2.1, _, rfl, b, CK, dy, _, _, rfl, hb, C.cl, C.no _ (by simp), (lk_ks _ _ _ _ _ _ _).2.2.1, scal_tv2 _ _, _, rfl, ?_⟩
      rw [tv_dec]
      by_cases q3 : x.b = y.b
      case neg => rw [decide_eq_false q3]; exact iteF (kf fun e => q3 (congrArg KD.b e))
      rw [decide_eq_true q3]
      refine iteT ⟨_, rfl, a, CK, dx, _, _, rfl, ha, C.cl, C.no _ (by simp), (lk_ks _ _ _ _ _ _ _).2.2.2.1, _, rfl, b, CK, dy, _, _, rfl, hb, C.cl, C.no _ (by simp), (lk_ks _ _ _ _ _ _ _).2.2.2.1, rfl, _, rfl, ?_⟩
      by_cases q4 : x.f = y.f
      case neg => rw [decide_eq_false (fun z => q4 (by injection z))]; exact iteF (kf fun e => q4 (congrArg KD.f e))
      rw [decide_eq_true (congrArg V.bl q4)]
      refine iteT ⟨_, rfl, a, CK, dx, _, _, rfl, ha, C.cl, C.no _ (by simp), (lk_ks _ _ _ _ _ _ _).2.2.2.2.1, _, rfl, b, CK, dy, _, _, rfl, hb, C.cl, C.no _ (by simp), (lk_ks _ _ _ _ _ _ _).2.2.2.2.1, rfl, _, rfl, ?_⟩
      by_cases q5 : x.h = y.h
      case neg => rw [decide_eq_false (fun z => q5 (by injection z))]; exact iteF (kf fun e => q5 (congrArg KD.h e))
      rw [decide_eq_true (congrArg V.bl q5)]
      refine iteT ⟨_, rfl, a, CK, dx, _, _, rfl, ha, C.cl, C.no _ (by simp), (lk_ks _ _ _ _ _ _ _).2.2.2.2.2.1, _, rfl, b, CK, dy, _, _, rfl, hb, C.cl, C.no _ (by simp), (lk_ks _ _ _ _ _ _ _).2.2.2.2.2.1, scal_tv2 _ _, _, rfl, ?_⟩
      rw [tv_dec]
      by_cases q6 : x.k = y.k
      case neg => rw [decide_eq_false q6]; exact iteF (kf fun e => q6 (congrArg KD.k e))
      rw [decide_eq_true q6]
      refine iteT ⟨_, rfl, a, CK, dx, _, _, rfl, ha, C.cl, C.no _ (by simp), (lk_ks _ _ _ _ _ _ _).2.2.2.2.2.2, _, rfl, b, CK, dy, _, _, rfl, hb, C.cl, C.no _ (by simp), (lk_ks _ _ _ _ _ _ _).2.2.2.2.2.2, rfl, ?_⟩
      rw [show decide (V.bl x.r = V.bl y.r) = decide (x = y) by
        rw [Bool.eq_iff_iff, decide_eq_true_eq, decide_eq_true_eq]
        obtain ⟨n1, f1, b1, z1, h1, k1, r1⟩ := x
        obtain ⟨n2, f2, b2, z2, h2, k2, r2⟩ := y
        simp only at q1 q2 q3 q4 q5 q6
        subst q1 q2 q3 q4 q5 q6
        simp]
      exact k
abbrev sHE : Stmt := meth 32 3
abbrev nHE : List Str := ["self", "other"]
def spHE2 (K : PySem.W.Frag) (CF CK CH : Addr) : Sp := fun vs H Q _ => ∃ (a b : Addr) (r1 r2 : Str) (ks1 ks2 : List KD) (xs ws : List V) (H0 : Hp), vs = [.ref a, .ref b] ∧ HouseAt K CF CK CH H a r1 ks1 ∧ KindsAre K CH H a xs ∧ Ev (rKn K CF CK H0) H xs ks1 ∧ HouseAt K CF CK CH H b r2 ks2 ∧ KindsAre K CH H b ws ∧ Ev (rKo K CF CK H0) H ws ks2 ∧
  Q (.bl (decide (r1 = r2) && decide (ks1 = ks2))) H
theorem scHE : FnScope nHE nHE (defScope sHE) := ⟨rfl, rfl, rfl, by decide +kernel, rfl, by decide +kernel, by decide +kernel⟩
theorem ok_HE2 {f fF : Addr} {fd fdF : FuncData} (F : Fun K "__eq__" "House.__eq__" sHE f fd) (B : Bn mg) (O : OwnC K CH) (HC : PlainC K CH houseAt) (gH : mg "House" = some (.ref CH)) (KE : EqM P w K mg base CK 3 (spKT2 K CF CK) fF fdF) :
    FnOk P w K mg base CX0 5 f fd nHE (spHE2 K CF CK CH) := by
  refine F.ok scHE (fun vs H Q E h => ?_) (fun cdv A outer s H vs Q E hr h => ?_)
  · obtain ⟨a, b, r1, r2, ks1, ks2, xs, ws, H0, rfl, _⟩ := h
    rfl
  · obtain ⟨a, b, r1, r2, ks1, ks2, xs, ws, H0, rfl, h1, ⟨dxa, fsa, ta, ea, la, hta⟩, eu, h2, ⟨dxb, fsb, tb, eb, lb, htb⟩, ew, k⟩ := h
    obtain ⟨dx, _, _, _, _, _, _, ha, _⟩ := h1.ex
    obtain ⟨dy, _, _, _, _, _, _, hb, _⟩ := h2.ex
    refine ⟨_, 
      (pss_one (ps_ret (pe_and (pe_callB call_isi (by rfl) B.isi boot_isi (pa_cons (pv 1) (pa_cons (pe_glob (v := .ref CH) (by rfl) gH rfl) pa_nil))) (pe_and (pe_cmpR op_eq (pe_fld (pv 0) rfl) (pe_fld (pv 1) rfl) (nomark _)) (pe_one (pe_cmpR (show OpR _ (compareOp .Eq) (rEqTO K CK (spKT2 K CF CK) E0) from op_eqTO KE.ok KE.bi pass0 KE.own (hr.mono (by decide))) (pe_fld (pv 0) rfl) (pe_fld (pv 1) rfl) (nomark _))))))), ?_⟩
    refine ⟨_, rfl, .ref b, .ref CH, .ref CH, .ref CH, true, rfl, .own CH, O.ty hb, O.self, _, rfl, iteT ?_⟩
    refine ⟨_, rfl, a, CH, dx, _, _, rfl, ha, HC.cl, HC.no _ (by simp), (lk_h _ _ _ _ _ _ _).1, _, rfl, b, CH, dy, _, _, rfl, hb, HC.cl, HC.no _ (by simp), (lk_h _ _ _ _ _ _ _).1, rfl, _, rfl, ?_⟩
    rw [dec_s]
    by_cases q1 : r1 = r2
    case neg =>
      rw [decide_eq_false q1] at k ⊢
      exact iteF k
    rw [decide_eq_true q1] at k ⊢
    refine iteT ⟨_, rfl, a, CH, dxa, _, _, rfl, ea, HC.cl, HC.no _ (by simp), la, _, rfl, b, CH, dxb, _, _, rfl, eb, HC.cl, HC.no _ (by simp), lb, ?_⟩
    obtain ⟨zs, rfl, lz, rz⟩ := refs_of (R := rKn K CF CK H0) (fun v c h => let ⟨a, _, _, _, e, _⟩ := h.2; ⟨a, e⟩) eu
    obtain ⟨ts, rfl, lt, rt⟩ := refs_of (R := rKo K CF CK H0) (fun v c h => let ⟨a, _, _, _, e, _⟩ := h; ⟨a, e⟩) ew
    refine ⟨ta, tb, zs, ts, fun i => decide (ks1[i]? = ks2[i]?), rfl, rfl, hta, htb, fun i z t h1 h2 => ?_, ?_⟩
    · have li : i < ks1.length := by
        have := (List.getElem?_eq_some_iff.mp h1).1
        omega
      have lj : i < ks2.length := by
        have := (List.getElem?_eq_some_iff.mp h2).1
        omega
      have r1 := rz i z _ h1 (List.getElem?_eq_getElem li)
      have r2 := rt i t _ h2 (List.getElem?_eq_getElem lj)
      obtain ⟨_, _, d1, w1, _, e1, n1, hz, _⟩ := id r1
      obtain ⟨_, d2, w2, _, e2, n2, ht, _⟩ := id r2
      cases e1
      cases e2
      refine ⟨_, _, _, _, _, hz, ht, KE.nf, fun e => absurd (e ▸ n1) n2, z, t, _, _, H0, rfl, r1, r2, ?_, rfl⟩
      show V.bl _ = V.bl (decide (ks1[i]? = ks2[i]?))
      rw [List.getElem?_eq_getElem li, List.getElem?_eq_getElem lj]
      congr 1
      simp
    · rw [show ((List.range (min zs.length ts.length)).all (fun i => decide (ks1[i]? = ks2[i]?)) && zs.length == ts.length) = decide (ks1 = ks2) by rw [lz, lt]; exact all_eq _ _]
      exact k
end
end Wh
set_option Elab.async false
set_option linter.all false
set_option maxRecDepth 100000
set_option maxHeartbeats 4000000
namespace Wh
open PySem PySem.Spec PyProof.Rows L2
open Wp hiding Same.refl Same.trans same_new boot_all run_own
open W8 (Ev Rp Kp Mono same_new take_snoc rW rB mW mB ev_words ev_words_eq ev_bools_eq lc_sieve)
/-! ## a house of rows -/
theorem mKn (K : PySem.W.Frag) (CF CK : Addr) (H0 : Hp) : Mono (rKn K CF CK H0) := fun _ _ _ _ s h => by
  obtain ⟨r, a, dx, tf, us, e, n, ha, hus, ev⟩ := h
  have st : Stay _ _ := .kp s
  exact ⟨mK K CF CK _ _ _ _ s r, a, dx, tf, us, e, n, st.i _ _ _ _ ha, st.sqT hus, ev.1, fun i x c p q => mFn K CF H0 _ _ _ _ s (ev.2 i x c p q)⟩
theorem rKn.base {K : PySem.W.Frag} {CF CK : Addr} {H0 H1 H : Hp} {v : V} {x : KD} (h : rKn K CF CK H1 H v x) (s : Same H0 H1) : rKn K CF CK H0 H v x := by
  have none_of : ∀ {b : Addr}, H1 b = none → H0 b = none := fun {b} e => by
    cases q : H0 b with
    | none => rfl
    | some o => rw [s _ _ q] at e; cases e
  obtain ⟨r, a, dx, tf, us, e, n, ha, hus, ev⟩ := h
  exact ⟨r, a, dx, tf, us, e, none_of n, ha, hus, ev.1, fun i x c p q => ⟨(ev.2 i x c p q).1, (ev.2 i x c p q).2.imp fun a h => ⟨h.1, none_of h.2⟩⟩⟩
section
variable {P : Program} {w : World} {K : PySem.W.Frag} {mg : Str → Option Value} {base : Heap} {CF CK CH CB : Addr}
abbrev sMh : Stmt := top 54
abbrev nMh : List Str := ["_law_rows", "_law_own_root", "_law_row_here"]
def spMh (K : PySem.W.Frag) (CF CK CH : Addr) : Sp := fun vs H Q _ => ∃ (l : Addr) (root : Str) (rs : List KD), vs = [.ref l, .str root] ∧ RowsL K H l rs ∧ (∀ x ∈ rs, RowV x) ∧ HouseOk root rs ∧
  ∀ (s : Addr) (xs : List V) H', H s = none → Same H H' → HouseAt K CF CK CH H' s root rs → KindsAre K CH H' s xs → Ev (rKn K CF CK H) H' xs rs → Q (.ref s) H'
theorem scMh : FnScope nMh ["_law_rows", "_law_own_root"] (defScope sMh) := ⟨rfl, rfl, rfl, by decide +kernel, rfl, by decide +kernel, by decide +kernel⟩
theorem ok_Mh {f f1 f2 : Addr} {fd fd1 fd2 : FuncData} (F : Fun K "_law_made_house" "_law_made_house" sMh f fd) (MKD : Known P w K mg base CX0 7 "_law_made_kind" ["_law_row_here"] (spMk K CF CK) f1 fd1) (MH : MkHB P w K mg base CF CK CH CB f2 fd2) :
    FnOk P w K mg base CX0 8 f fd ["_law_rows", "_law_own_root"] (spMh K CF CK CH) := by
  refine F.ok scMh (fun vs H Q E h => ?_) (fun cdv A outer s H vs Q E hr h => ?_)
  · obtain ⟨l, root, rs, rfl, _⟩ := h
    rfl
  · obtain ⟨l, root, rs, rfl, R, rv, ok, k⟩ := h
    refine ⟨_, 
      (pss_one (ps_ret (pe_make MH.made MH.ok (hr.mono (by decide)) rfl MH.gl MH.bi .nil passLN (pa_cons (pv 1) (pa_cons (pe_lc (own := [("_law_row_here", 2)]) (g := gName 2) (tt := tYes)  rfl scMh.nd (pi_list (pv 0)) (blkOk_by (N := nMh) (sc := defScope sMh) (by decide +kernel)) (fun _ _ _ _ _ => pg_name (i := 2) scMh.nd rfl (Or.inl rfl)) (fun _ _ _ _ _ => pts_nil) (fun _ _ _ _ _ => (pe_call MKD.ok (hr.mono (by decide)) rfl MKD.mg MKD.kp MKD.bi .nil pass0 (pa_cons (pv 2) pa_nil)))) pa_nil))))), ?_⟩
    obtain ⟨us, hl, ev⟩ := id R
    refine ⟨_, rfl, _, rfl, l, rfl, ⟨us, hl⟩, fun D hD => ?_⟩
    refine lc_sieve (R := cR (rRow K) H) (R2 := rKn K CF CK H) mR (mKn K CF CK H) (fun _ => true) id (cs := rs) walk_list (by have := ok.n12; omega) (fun H' s => s.seq hl) hD (evB ev _) (fun v c H2 Rq _ _ _ kk => kk _ (Same.refl _)) ?_ ?_
    · rintro u x H2 Rq mx _ s2 r kk
      exact ⟨_, rfl, u, x, rfl, rRow_same s2 (show rRow K H u x from r), rv x mx, fun u H' s' r' => kk u H' s' (r'.base s2)⟩
    intro H2 ys s2 hys ey
    rw [filter_all, List.map_id] at ey
    intro s dx hs hdx ne
    have hm := made_same (C := CH) hs hdx
    have none_of : H s = none := by
      cases q : H s with
      | none => rfl
      | some o => rw [s2 _ _ q] at hs; cases hs
    have ey2 := ey.same (mKn K CF CK H) hm
    refine ⟨s, dx, .str root, .ref D, rfl, upd_same, .inr ⟨D, ys, rs, rfl, ⟨_, hm _ _ hys⟩, .inl (SqL.of (hm _ _ hys)), ⟨ey2.1, fun i x c a b => (ey2.2 i x c a b).1⟩, ok.n1, ok.n12, rv, rfl, fun z H' e du b he => ?_, fun r2 H' du er b ha hk => ⟨rfl, ?_⟩⟩⟩
    · obtain ⟨x, mx, ex, kx⟩ := ok.root
      cases (DueIs.ok (ks := rs) (v := .str root) ok.alone ok.frz ⟨x, mx, by rw [ex], kx⟩).one du
    · cases er
      have s3 := made_but hs hdx b
      exact k s ys H' none_of (s2.trans s3) ha hk (ey.same (mKn K CF CK H) s3)
end
end Wh
set_option Elab.async false
set_option linter.all false
set_option maxRecDepth 100000
set_option maxHeartbeats 4000000
namespace Wh
open PySem PySem.Spec PyProof.Rows L2
open Wp hiding Same.refl Same.trans same_new boot_all run_own
open W8 (Ev Rp Kp Mono same_new take_snoc rW rB mW mB ev_words ev_words_eq ev_bools_eq lc_sieve)
section
variable {P : Program} {w : World} {K : PySem.W.Frag} {mg : Str → Option Value} {base : Heap}
abbrev sTr : Stmt := top 56
abbrev nTr : List Str := ["_law_told", "_law_due"]
def spTr (K : PySem.W.Frag) : Sp := fun vs H Q _ => ∃ (a b : Bool), vs = [.bl a, .bl b] ∧ Q (.bl (decide (a = b))) H
theorem scTr : FnScope nTr ["_law_told", "_law_due"] (defScope sTr) := ⟨rfl, rfl, rfl, by decide +kernel, rfl, by decide +kernel, by decide +kernel⟩
theorem ok_Tr {f : Addr} {fd : FuncData} (F : Fun K "_law_truth" "_law_truth" sTr f fd) (B : Bn mg) : FnOk P w K mg base CX0 1 f fd ["_law_told", "_law_due"] (spTr K) := by
  refine F.ok scTr (fun vs H Q E h => ?_) (fun cdv A outer s H vs Q E hr h => ?_)
  · obtain ⟨a, b, rfl, _⟩ := h
    rfl
  · obtain ⟨a, b, rfl, k⟩ := h
    refine ⟨_, 
      (pss_one (ps_ret (pe_and (pe_callB call_isi (by rfl) B.isi boot_isi (pa_cons (pv 0) (pa_cons (pe_bltn (v := .ty "bool") (by rfl) B.bool boot_tbool rfl) pa_nil))) (pe_one (pe_cmpR op_eq (pv 0) (pv 1) (nomark _)))))), ?_⟩
    refine ⟨_, rfl, _, _, _, _, _, rfl, .ty "bool", .base (.bl a), kit_bool (.bool a), _, rfl, iteT ?_⟩
    refine ⟨_, rfl, _, rfl, rfl, ?_⟩
    rw [show decide (V.bl a = V.bl b) = decide (a = b) by simp]
    exact k
abbrev sIi : Stmt := top 37
abbrev nIi : List Str := ["_law_thing"]
def spIi (K : PySem.W.Frag) : Sp := fun vs H Q _ => ∃ (i : Int), vs = [.int i] ∧ Q (.bl true) H
theorem scIi : FnScope nIi ["_law_thing"] (defScope sIi) := ⟨rfl, rfl, rfl, by decide +kernel, rfl, by decide +kernel, by decide +kernel⟩
theorem ok_Ii {f : Addr} {fd : FuncData} (F : Fun K "_law_is_integer" "_law_is_integer" sIi f fd) (B : Bn mg) : FnOk P w K mg base CX0 1 f fd ["_law_thing"] (spIi K) := by
  refine F.ok scIi (fun vs H Q E h => ?_) (fun cdv A outer s H vs Q E hr h => ?_)
  · obtain ⟨i, rfl, _⟩ := h
    rfl
  · obtain ⟨i, rfl, k⟩ := h
    refine ⟨_, 
      (pss_one (ps_ret (pe_and (pe_callB call_isi (by rfl) B.isi boot_isi (pa_cons (pv 0) (pa_cons (pe_bltn (v := .ty "int") (by rfl) B.int boot_tint rfl) pa_nil))) (pe_one (pe_not (pe_callB call_isi (by rfl) B.isi boot_isi (pa_cons (pv 0) (pa_cons (pe_bltn (v := .ty "bool") (by rfl) B.bool boot_tbool rfl) pa_nil)))))))), ?_⟩
    refine ⟨_, rfl, _, _, _, _, _, rfl, .ty "int", .base (.int i), kit_int (.int i), _, rfl, iteT ?_⟩
    exact ⟨_, rfl, _, _, _, _, _, rfl, .ty "bool", .base (.int i), kit_bool (.int i), _, rfl, k⟩
end
end Wh
set_option Elab.async false
set_option linter.all false
set_option maxRecDepth 100000
set_option maxHeartbeats 4000000
namespace Wh
open PySem PySem.Spec PyProof.Rows L2
open Wp hiding Same.refl Same.trans same_new boot_all run_own
/-! ## the house's answers against those of its rows -/
theorem baseOf_at {rs : List KD} {y : KD} (nd : (rs.map (·.n)).Nodup) (my : y ∈ rs) : baseOf rs y.n = y.b := by
  unfold baseOf
  rw [show (rs.find? fun e => decide (e.n = y.n)) = some y from atName_of nd my]
  rfl
theorem filter_names {rs : List KD} (p : Str → Bool) (q : KD → Bool) (h : ∀ y ∈ rs, p y.n = q y) : (rs.map (·.n)).filter p = (rs.filter q).map (·.n) := by
  rw [List.filter_map]
  exact congrArg _ (List.filter_congr fun y my => h y my)
theorem heirs_rows {rs : List KD} {x : KD} (nd : (rs.map (·.n)).Nodup) : heirsK rs x = (rs.filter fun y => decide (tv y.b = V.str x.n)).map (·.n) :=
  filter_names _ _ fun y my => by rw [baseOf_at nd my]
theorem admK_rows {rs : List KD} {t : Str} (nd : (rs.map (·.n)).Nodup) : admK rs t = (rs.filter fun y => decide (t = ("any" : Str)) || decide (t = y.n) || decide (some t = y.b)).map (·.n) :=
  filter_names _ _ fun y my => by unfold letB; rw [baseOf_at nd my]
theorem isK_any {s : Str} (h : IsK s) : s ≠ "any" := fun e => by
  have := h.ok
  rw [e] at this
  exact absurd this (by decide +kernel)
end Wh
set_option Elab.async false
set_option linter.all false
set_option maxRecDepth 100000
set_option maxHeartbeats 4000000
namespace Wh
open PySem PySem.Spec PyProof.Rows L2
open Wp hiding Same.refl Same.trans same_new boot_all run_own
open W8 (Ev Rp Kp Mono same_new take_snoc rW rB mW mB ev_words ev_words_eq ev_bools_eq lc_sieve)
/-! ## whom a house admits, against its rows -/
theorem let_at {rs : List KD} {y : KD} {t : Str} (nd : (rs.map (·.n)).Nodup) (my : y ∈ rs) (ht : t ≠ "any") : letB rs t y.n = (decide (t = y.n) || decide (some t = y.b)) := by
  unfold letB
  rw [baseOf_at nd my, decide_eq_false ht]
  rfl
section
variable {P : Program} {w : World} {K : PySem.W.Frag} {mg : Str → Option Value} {base : Heap} {CF CK CH CU : Addr}
abbrev sLa : Stmt := top 60
abbrev nLa : List Str := ["_law_house", "_law_rows", "_law_name", "_law_row_here", "_law_due"]
def spLa (K : PySem.W.Frag) (CF CK CH : Addr) : Sp := fun vs H Q _ => ∃ (s l : Addr) (root : Str) (rs : List KD) (x : KD), vs = [.ref s, .ref l, .str x.n] ∧ HouseAt K CF CK CH H s root rs ∧ RowsL K H l rs ∧ (∀ y ∈ rs, RowV y) ∧ x ∈ rs ∧ ∀ H', Same H H' → Q (.bl true) H'
theorem scLa : FnScope nLa ["_law_house", "_law_rows", "_law_name"] (defScope sLa) := ⟨rfl, rfl, rfl, by decide +kernel, rfl, by decide +kernel, by decide +kernel⟩
theorem ok_La {f f1 f2 f3 : Addr} {fd fd1 fd2 fd3 : FuncData} (F : Fun K "_law_admits" "_law_admits" sLa f fd) (B : Bn mg) (HC : PlainC K CH houseAt) (AS_ : KMt P w K mg base CH (L2N.CX P w) 4 "admits" ["self", "target", "kind"] (spAs K CF CK CH CU) f1 fd1) (RW_ : Known P w K mg base CX0 1 "_law_row" ["_law_rows", "_law_name"] (spRw K) f2 fd2)
    (TR : Known P w K mg base CX0 1 "_law_truth" ["_law_told", "_law_due"] (spTr K) f3 fd3) : FnOk P w K mg base CX0 5 f fd ["_law_house", "_law_rows", "_law_name"] (spLa K CF CK CH) := by
  refine F.ok scLa (fun vs H Q E h => ?_) (fun cdv A outer s0 H vs Q E hr h => ?_)
  · obtain ⟨s, l, root, rs, x, rfl, _⟩ := h
    rfl
  · obtain ⟨s, l, root, rs, x, rfl, ha, R, rv, mx, k⟩ := h
    have hu := hu_of hr
    refine ⟨_, 
      (pss_cons (ps_for PassesOwn.never rfl (pi_list (pv 1)) (pg_name (i := 3) scLa.nd rfl (Or.inl rfl)) 
        (pss_cons (ps_set (i := 4) scLa.nd rfl (.inl rfl) (pe_cmpR op_in_seq (pv 2) (pe_lst (pa_cons (pe_dget hu (pv 3) pe_str (fun _ _ => rfl)) (pa_cons (pe_dget hu (pv 3) pe_str (fun _ _ => rfl)) pa_nil))) (by rfl)))
        (pss_cons (ps_if (pt_not (pt_val (pe_call TR.ok (hr.mono (by decide)) rfl TR.mg TR.kp TR.bi .nil pass0 (pa_cons (pe_meth (pv 0) HC.cl AS_.mt AS_.ok (hr.mono (by decide)) AS_.bi .nil passLN (pa_cons (pe_dget hu (pv 3) pe_str (fun _ _ => rfl)) (pa_cons (pv 2) pa_nil))) (pa_cons (pe_cmpR op_in_seq (pe_dget hu (pv 3) pe_str (fun _ _ => rfl)) (pe_lst (pa_cons (pv 2) (pa_cons (pe_dget hu (pe_call RW_.ok (hr.mono (by decide)) rfl RW_.mg RW_.kp RW_.bi .nil pass0 (pa_cons (pv 1) (pa_cons (pv 2) pa_nil))) pe_str (fun _ _ => rfl)) pa_nil))) (by rfl)) pa_nil))))) 
          (pss_one (ps_ret pe_bl)) pss_nil)
        (pss_one (ps_if (PW.pt (pw_or (pt_not (pt_val (pe_call TR.ok (hr.mono (by decide)) rfl TR.mg TR.kp TR.bi .nil pass0 (pa_cons (pe_meth (pv 0) HC.cl AS_.mt AS_.ok (hr.mono (by decide)) AS_.bi .nil passLN (pa_cons (pv 2) (pa_cons (pe_dget hu (pv 3) pe_str (fun _ _ => rfl)) pa_nil))) (pa_cons (pv 4) pa_nil))))) (pw_or1 (pt_cmpR op_isnot_bl (pe_meth (pv 0) HC.cl AS_.mt AS_.ok (hr.mono (by decide)) AS_.bi .nil passLN (pa_cons pe_str (pa_cons (pv 2) pa_nil))) pe_bl (nomark _))))) 
          (pss_one (ps_ret pe_bl)) pss_nil)))))
      (pss_one (ps_ret pe_bl))), ?_⟩
    obtain ⟨us, hl, ev⟩ := id R
    have nd := ha.ok.nd
    have n12 := ha.ok.n12
    obtain ⟨hx, _, _, _, _, _, _, hs, _⟩ := id ha.ex
    refine ⟨_, rfl, l, rfl, ⟨us, hl⟩, ?_⟩
    refine for_it (walk_list (xs := us)) (fun i σ H' => ∃ v3 v4, σ = [some (.ref s), some (.ref l), some (.str x.n), v3, v4] ∧ Same H H') ⟨none, none, rfl, Same.refl _⟩ (fun i σ H' _ ⟨_, _, _, s⟩ => s.seq hl) ?_ ?_
    · rintro i u σ _ H1 hi ⟨v3, v4, rfl, s1⟩ ⟨rfl, hu0⟩
      obtain ⟨y, hy, r⟩ := ev.at hu0
      have my := List.mem_of_getElem? hy
      obtain ⟨d, lo, ws, rfl, hd, _⟩ := rRow_same s1 r
      have fb : ∀ (a : Str) (o : Option Str), ([V.str a, tv o] : List V).all flatV = true := fun a o => by cases o <;> rfl
      have oy : PyData.strOk y.n = true := (Bool.and_eq_true_iff.mp (rv y my).good.n).1
      have ox : PyData.strOk x.n = true := (Bool.and_eq_true_iff.mp (rv x mx).good.n).1
      have qs : ∀ {z : Str} (H' : Hp), PyData.strOk z = true → Dq K H' (.str z) (.str z) := fun H' o => .dat (.str _) (shaped_str o)
      have iny : y.n ∈ rs.map (·.n) := List.mem_map_of_mem my
      have inx : x.n ∈ rs.map (·.n) := List.mem_map_of_mem mx
      refine ⟨_, rfl, _, rfl, d, _, rfl, g_name hd, _, rfl, d, _, rfl, g_base hd, by show 2 ≤ sizeLine; decide, fun D1 f1 => ⟨D1, _, rfl, .inl (SqL.of upd_same), rfl, fb _ _, ?_⟩⟩
      have s2 := s1.trans (same_new (o := HO.lst [.str y.n, tv y.b]) f1)
      have hd2 := same_new (o := HO.lst [.str y.n, tv y.b]) f1 _ _ hd
      obtain ⟨H2, eH2⟩ : ∃ H2, upd H1 D1 (.lst [.str y.n, tv y.b]) = H2 := ⟨_, rfl⟩
      rw [eH2] at s2 hd2 ⊢
      refine ⟨_, rfl, s, hx, _, rfl, s2 _ _ hs, rfl, _, rfl, d, _, rfl, g_name hd2, _, rfl, s, .str y.n, .str x.n, .str y.n, .str x.n, root, rs, rfl, ha.same s2, qs _ oy, qs _ ox, fun t x2 et mt m2 ez H3 s3 => ?_, fun t et mt e => (by rw [in_house mx] at e; cases e), fun _ e => (by rw [in_house my] at e; cases e)⟩
      have en : x2.n = x.n := by injection ez with z; exact z.symm
      cases et
      refine ⟨_, rfl, d, _, rfl, g_name (s3 _ _ hd2), _, rfl, _, rfl, _, rfl, l, x.n, rs, x, rfl, R.same (s2.trans s3), by omega, atName_of nd mx, fun u H4 r4 s4 => ?_⟩
      obtain ⟨d4, lo4, ws4, rfl, hd4, _⟩ := rRow_same s4 r4
      refine ⟨d4, _, rfl, g_base hd4, by show 2 ≤ sizeLine; decide, fun D5 f5 => ⟨D5, _, rfl, .inl (SqL.of upd_same), rfl, fb _ _, ?_⟩⟩
      have s5 := s2.trans (s3.trans (s4.trans (same_new (o := HO.lst [.str x.n, tv x.b]) f5)))
      have hd5 : (upd H4 D5 (.lst [.str x.n, tv x.b])) d = some (.dK (rowD y lo)) := same_new f5 _ _ (s4 _ _ (s3 _ _ hd2))
      obtain ⟨H5, eH5⟩ : ∃ H5, upd H4 D5 (.lst [.str x.n, tv x.b]) = H5 := ⟨_, rfl⟩
      rw [eH5] at s5 hd5 ⊢
      have e1 : letB rs y.n x2.n = inV (.str y.n) [.str x.n, tv x.b] := by rw [in_two, en, let_at nd mx (isK_any (rv y my).n)]
      refine ⟨letB rs y.n x2.n, inV (.str y.n) [.str x.n, tv x.b], rfl, _, rfl, ?_⟩
      rw [decide_eq_true e1]
      refine iteF ⟨_, rfl, s, hx, _, rfl, s5 _ _ hs, rfl, _, rfl, _, rfl, d, _, rfl, g_name hd5, s, .str x.n, .str y.n, .str x.n, .str y.n, root, rs, rfl, ha.same s5, qs _ ox, qs _ oy, fun t x3 et mt m3 ez H6 s6 => ?_, fun t et mt e => (by rw [in_house my] at e; cases e), fun _ e => (by rw [in_house mx] at e; cases e)⟩
      have en3 : x3.n = y.n := by injection ez with z; exact z.symm
      cases et
      have e2 : letB rs x.n x3.n = inV (.str x.n) [.str y.n, tv y.b] := by rw [in_two, en3, let_at nd my (isK_any (rv x mx).n)]
      refine ⟨_, rfl, letB rs x.n x3.n, inV (.str x.n) [.str y.n, tv y.b], rfl, _, rfl, ?_⟩
      rw [decide_eq_true e2]
      have s56 := s5.trans s6
      refine iteF ⟨_, rfl, s, hx, _, rfl, s56 _ _ hs, rfl, _, rfl, s, .str "any", .str x.n, .str "any", .str x.n, root, rs, rfl, ha.same s56, qs _ (by decide +kernel), qs _ ox, fun t x4 et mt m4 ez H7 s7 => ?_, fun t et mt e => (by rw [in_house mx] at e; cases e), fun e _ => absurd rfl e⟩
      cases et
      refine ⟨_, _, rfl, rfl, _, rfl, ?_⟩
      rw [show (!decide (letB rs "any" x4.n = true)) = false from rfl]
      exact iteF ⟨_, _, rfl, s56.trans s7⟩
    · rintro σ H1 ⟨v3, v4, rfl, s1⟩
      exact k H1 s1
end
end Wh
set_option Elab.async false
set_option linter.all false
set_option maxRecDepth 100000
set_option maxHeartbeats 4000000
namespace Wh
open PySem PySem.Spec PyProof.Rows L2
open Wp hiding Same.refl Same.trans same_new boot_all run_own
open W8 (same_new)
/-! ## what a field shows -/
theorem depth_strs : ∀ w : List Str, PyData.depthAll (w.map PyData.str) ≤ 1
  | [] => by simp [PyData.depthAll]
  | x :: w => by
    have := depth_strs w
    simp only [List.map_cons, PyData.depthAll, PyData.depth]
    omega
section
variable {P : Program} {w : World} {K : PySem.W.Frag} {mg : Str → Option Value} {base : Heap} {CF CK CH CU : Addr}
abbrev sFs : Stmt := top 57
abbrev nFs : List Str := ["_law_field_here", "_law_due"]
def spFsh (K : PySem.W.Frag) (CF : Addr) : Sp := fun vs H Q _ => ∃ (u v : V) (g : FV), vs = [u, v] ∧ rF K CF H u g ∧ rLF K H v g ∧ FldOk g ∧ ∀ H', Same H H' → Q (.bl true) H'
theorem scFs : FnScope nFs ["_law_field_here", "_law_due"] (defScope sFs) := ⟨rfl, rfl, rfl, by decide +kernel, rfl, by decide +kernel, by decide +kernel⟩
theorem ok_Fs {f f1 : Addr} {fd fd1 : FuncData} (F : Fun K "_law_field_shows" "_law_field_shows" sFs f fd) (B : Bn mg) (OF : OwnC K CF) (CFc : PlainC K CF ["name", "mode", "target", "default", "was"]) (gF : mg "Field" = some (.ref CF)) (II : Known P w K mg base CX0 1 "_law_is_integer" ["_law_thing"] (spIi K) f1 fd1) : FnOk P w K mg base CX0 2 f fd ["_law_field_here", "_law_due"] (spFsh K CF) := by
  refine F.ok scFs (fun vs H Q E h => ?_) (fun cdv A outer s0 H vs Q E hr h => ?_)
  · obtain ⟨u, v, g, rfl, _⟩ := h
    rfl
  · obtain ⟨u, v, g, rfl, r, rl, og, k⟩ := h
    refine ⟨_, 
      (pss_cons (ps_if (PW.pt (pw_or (pt_not (pt_val (pe_callB call_isi (by rfl) B.isi boot_isi (pa_cons (pv 0) (pa_cons (pe_glob (v := .ref CF) (by rfl) gF rfl) pa_nil))))) (pw_or (pt_not (pt_val (pe_call II.ok (hr.mono (by decide)) rfl II.mg II.kp II.bi .nil pass0 (pa_cons (pe_fld (pv 0) rfl) pa_nil)))) (pw_or1 (pt_not (pt_val (pe_callB call_isi (by rfl) B.isi boot_isi (pa_cons (pe_fld (pv 0) rfl) (pa_cons (pe_bltn (v := .ty "tuple") (by rfl) B.tuple boot_ttuple rfl) pa_nil))))))))) 
        (pss_one (ps_ret pe_bl)) pss_nil)
      (pss_one (ps_ret (pe_cmpR (op_eqD hr.units) (pe_tup (pa_cons (pe_fld (pv 0) rfl) (pa_cons (pe_fld (pv 0) rfl) (pa_cons (pe_fld (pv 0) rfl) (pa_cons (pe_fld (pv 0) rfl) (pa_cons (pe_fld (pv 0) rfl) pa_nil)))))) (pv 1) (nomark _))))), ?_⟩
    obtain ⟨b, rfl, ⟨dy, tw, hb, hw⟩, _⟩ := id r
    obtain ⟨t, wt, rfl, ht, hwt⟩ := rl
    refine ⟨_, rfl, .ref b, .ref CF, .ref CF, .ref CF, true, rfl, .own CF, OF.ty hb, OF.self, _, rfl, iteF ?_⟩
    refine ⟨_, rfl, b, CF, dy, _, _, rfl, hb, CFc.cl, CFc.no _ (by simp), rfl, g.d, rfl, _, rfl, iteF ?_⟩
    refine ⟨_, rfl, b, CF, dy, _, _, rfl, hb, CFc.cl, CFc.no _ (by simp), rfl, _, _, _, _, _, rfl, .ty "tuple", SqT.ty hw, kit_tuple (.tuple []), _, rfl, iteF ?_⟩
    refine ⟨_, rfl, b, CF, dy, _, _, rfl, hb, CFc.cl, CFc.no _ (by simp), rfl, _, rfl, b, CF, dy, _, _, rfl, hb, CFc.cl, CFc.no _ (by simp), rfl, _, rfl, b, CF, dy, _, _, rfl, hb, CFc.cl, CFc.no _ (by simp), rfl, _, rfl, b, CF, dy, _, _, rfl, hb, CFc.cl, CFc.no _ (by simp), rfl, _, rfl, b, CF, dy, _, _, rfl, hb, CFc.cl, CFc.no _ (by simp), rfl, by show 5 ≤ sizeLine; decide, fun T hT => ?_⟩
    have sT := same_new (o := HO.tup [V.str g.n, .str g.m, tv g.t, .int g.d, .ref tw]) hT
    have gg := og.right.good
    have dp : ∀ {H' : Hp} {q : Addr}, SqT K H' q (g.w.map V.str) → DpAll K H' [V.str g.n, .str g.m, tv g.t, .int g.d, .ref q] [.str g.n, .str g.m, tvD g.t, .int g.d, .tuple (g.w.map .str)] := fun {H' q} h => .cons (.str _) (.cons (.str _) (.cons (by cases g.t <;> first | exact .non | exact .str _) (.cons (.int _) (.cons (.tup h (dpAll_strs g.w)) .nil))))
    have sh : SeqAt.shaped (.tuple [.str g.n, .str g.m, tvD g.t, .int g.d, .tuple (g.w.map .str)]) = true := by
      have l1 : PyData.strOk g.n = true := (Bool.and_eq_true_iff.mp gg.n).1
      have l2 : PyData.strOk g.m = true := (Bool.and_eq_true_iff.mp gg.m).1
      have l3 : (tvD g.t).canLay0 = true := (Bool.and_eq_true_iff.mp gg.t).1
      have l4 : PyData.canLayAll0 (g.w.map .str) = true := (Bool.and_eq_true_iff.mp gg.w).1
      have d4 := depth_strs g.w
      have d3 : (tvD g.t).depth ≤ 1 := by cases g.t <;> simp [tvD, PyData.depth]
      refine Bool.and_eq_true_iff.mpr ⟨?_, decide_eq_true ?_⟩
      · simp only [PyData.canLay0, PyData.canLayAll0, l1, l2, l3, l4]
        rfl
      · simp only [PyData.depth, PyData.depthAll]
        omega
    refine ⟨_, rfl, _, _, .tup (SqT.of upd_same) (dp (sT.sqT hw)), .tup (sT.sqT ht) (dp (sT.sqT hwt)), sh, sh, ?_⟩
    rw [SeqAt.eqv_refl _ (Bool.and_eq_true_iff.mp sh).1]
    exact k _ sT
end
end Wh
set_option Elab.async false
set_option linter.all false
set_option maxRecDepth 100000
set_option maxHeartbeats 4000000
/-! o.m(e, .., k = v, ..), and o.m(e, ..) where what may come out hangs on the locals -/
namespace Wh
open PySem PySem.Spec PyProof.Rows L2
section
variable {X : Cx} {CX : CXT} {k n : Nat} {f C : Addr} {fd : FuncData} {ps ks : List Str} {sp : Sp} {m : Str} {apos pos : Pos} {o e : Expr} {es : List Expr} {kws : List Keyword} {ta : TE} {t tk : TA} {g : List Value → List Value → List Value} {gV : List V → List V → List V}
def tMethK (C : Addr) (m : Str) (n j : Nat) (sp : Sp) (gV : List V → List V → List V) (E : L2.St → XK) (ta : TE) (t tk : TA) : TE := fun σ H Q => ta σ H fun x H1 => ∃ a dx fs, x = .ref a ∧ H1 a = some (.ins C dx fs) ∧ fs.lookup m = none ∧
  t σ H1 fun vs H2 => tk σ H2 fun zs H3 => vs.length = n ∧ zs.length = j ∧ sp (gV (.ref a :: vs) zs) H3 Q (E σ)
theorem run_fnNS {E : L2.St → XK} {pins : List (Addr × Obj)} {σ : L2.St} {H : Hp} {s : Shared} {Q : VK} {us ws : List Value} {vs zs : List V} (F : FnOk X.prog X.w X.K X.mg X.base CX k f fd ps sp) (hr : Room k X.A) (hb : KBn X.K fd ps n ks g gV) (hx : PassesAt CX X σ (E σ))
    (I : Inv X pins σ H s) (r : Vals vs us) (rz : Vals zs ws) (l1 : vs.length = n) (l2 : zs.length = ks.length) (h : sp (gV vs zs) H Q (E σ)) : wpAny (model X.prog X.w) X.A (call (.ref f) us (ks.zip ws)) (EP X pins σ Q) X.xe s := by
  have r2 := hb.rel r rz
  refine wpAny_call (codeAny_mono (F.run X.A X.stack s H ⟨us, ks.zip ws⟩ (g us ws) (gV vs zs) Q (E σ) hr I.env0 (hb.to s us ws I.kIn (r.length.symm.trans l1) (rz.length.symm.trans l2)) r2 h) fun r s' hq => ?_)
  cases r with
  | error e => exact hx pins H s e s' I hq
  | ok fl =>
    cases fl with
    | ret u => exact I.after hq
    | next => exact False.elim hq
    | brk => exact False.elim hq
    | cont => exact False.elim hq
theorem pe_methK {E : L2.St → XK} {pl : Sem Bool} (he : PE X o ta) (c : Cls X.K C) (hm : Meth X.K C m f) (F : FnOk X.prog X.w X.K X.mg X.base CX k f fd ps sp) (hr : Room k X.A) (hb : KBn X.K fd ps (n + 1) ks g gV) (hx : ∀ σ, PassesAt CX X σ (E σ)) (ha : PA X (e :: es) t) (hkw : PK X kws tk)
    (hall : (backToKw pos (keywordEach kws X.env)).all (·.1.isSome) = true := by rfl) (hks : (backToKw pos (keywordEach kws X.env)).filterMap (·.1) = ks := by rfl)
    (hst : starEach (e :: es) X.env = (false, eval e X.env) :: starEach es X.env := by rfl) (hpl : ((backTo pos (starEach (e :: es) X.env)).any (·.1) || (backToKw pos (keywordEach kws X.env)).any (·.1.isNone)) = false := by rfl)
    (ht : eval (.Call (.Attribute o m apos) (e :: es) kws pos) X.env = (do
      let ov ← eval o X.env
      standAt apos.atName
      let (f, first) ← holding [ov] (getMethod ov m pl)
      callWith pos f first (backTo pos (starEach (e :: es) X.env)) (backToKw pos (keywordEach kws X.env))) := by rfl) :
    PE X (.Call (.Attribute o m apos) (e :: es) kws pos) (tMethK C m n ks.length sp gV E ta t tk) := by
  refine ⟨fun pins s σ H Q I h => ?_⟩
  refine PySem.W.methodCall_KW (pl := pl) (thn (he.run pins s σ H _ I h) fun u s1 ⟨x, H1, I1, rx, a, dx, fs, ex, ea, l, q⟩ => ?_) ht
  subst ex
  obtain rfl : u = Value.ref a := rx
  refine getmeth_ok I1 ea c hm l ?_
  refine PySem.W.callWith_KW (first := [.ref a]) (h₀ := X.base) I.ok.mod.kin hm.kp hall (thn (ha.run pos pins s1 σ H1 _ I1 q) fun us s2 ⟨vs, H2, I2, r, q2⟩ => ?_) hpl hst
  refine thn (hkw.run pos pins s2 σ H2 _ I2 q2) fun ws s3 ⟨zs, H3, I3, rz, l1, l2, q3⟩ => ⟨I3.kIn, ?_⟩
  rw [hks]
  exact run_fnNS (us := .ref a :: us) (vs := .ref a :: vs) F hr hb (hx σ) I3 (.cons rfl r) rz (by rw [List.length_cons, l1]) l2 q3
def tMethS (C : Addr) (m : Str) (sp : Sp) (E : L2.St → XK) (ta : TE) (t : TA) : TE := fun σ H Q => ta σ H fun x H1 => ∃ a dx fs, x = .ref a ∧ H1 a = some (.ins C dx fs) ∧ fs.lookup m = none ∧ t σ H1 fun vs H2 => sp (.ref a :: vs) H2 Q (E σ)
theorem pe_methSS {E : L2.St → XK} {pl : Sem Bool} (he : PE X o ta) (c : Cls X.K C) (hm : Meth X.K C m f) (F : FnOk X.prog X.w X.K X.mg X.base CX k f fd ps sp) (hr : Room k X.A) (hb : Binds X.K fd ps []) (hx : ∀ σ, PassesAt CX X σ (E σ)) (ha : PA X (e :: es) t)
    (hst : starEach (e :: es) X.env = (false, eval e X.env) :: starEach es X.env := by rfl) (hpl : (backTo pos (starEach es X.env)).any (·.1) = false := by rfl)
    (ht : eval (.Call (.Attribute o m apos) (e :: es) [] pos) X.env = (do
      let ov ← eval o X.env
      standAt apos.atName
      let (f, first) ← holding [ov] (getMethod ov m pl)
      callWith pos f first (backTo pos (starEach (e :: es) X.env)) (backToKw pos (keywordEach [] X.env))) := by rfl) :
    PE X (.Call (.Attribute o m apos) (e :: es) [] pos) (tMethS C m sp E ta t) := by
  refine ⟨fun pins s σ H Q I h => ?_⟩
  refine PySem.W.methodCall_KW (pl := pl) (thn (he.run pins s σ H _ I h) fun u s1 ⟨x, H1, I1, rx, a, dx, fs, ex, ea, l, q⟩ => ?_) ht
  subst ex
  obtain rfl : u = Value.ref a := rx
  refine getmeth_ok I1 ea c hm l ?_
  refine PySem.W.callWith_K (first := [.ref a]) (h₀ := X.base) I.ok.mod.kin hm.kp (thn (ha.run pos pins s1 σ H1 _ I1 q) fun us s2 ⟨vs, H2, I2, r, q2⟩ => ⟨I2.kIn, ?_⟩) hst hpl
  exact run_fnS (us := .ref a :: us) (vs := .ref a :: vs) F hr hb (hx σ) I2 (.cons rfl r) q2
theorem passAll {E : XK} (h : Passes CX X E) : ∀ σ : L2.St, PassesAt CX X σ ((fun _ => E : L2.St → XK) σ) := fun σ pins H s e s' I c => h pins σ H s e s' I c
end
end Wh
set_option Elab.async false
set_option linter.all false
set_option maxRecDepth 100000
set_option maxHeartbeats 4000000
namespace Wh
open PySem PySem.Spec PyProof.Rows L2
open Wp hiding Same.refl Same.trans same_new boot_all run_own
open W8 (Ev Rp Kp Mono same_new take_snoc rW rB mW mB ev_words ev_words_eq ev_bools_eq lc_sieve)
/-! ## the lists of a kind -/
theorem filter_all2 {α : Type} {l : List α} : l.filter (fun _ => true) = l := by simp
section
variable {P : Program} {w : World} {K : PySem.W.Frag} {mg : Str → Option Value} {base : Heap} {CF CK CH CU CV CB : Addr}
theorem ev_back {α : Type} {R : Rp α} {H : Hp} {xs : List V} {cs : List α} (e : Ev R H xs cs) {i : Nat} {c : α} (h : cs[i]? = some c) : ∃ x, xs[i]? = some x ∧ R H x c := by
  have li : i < xs.length := by
    rw [e.1]
    exact (List.getElem?_eq_some_iff.mp h).1
  exact ⟨_, List.getElem?_eq_getElem li, e.2 i _ c (List.getElem?_eq_getElem li) h⟩
theorem leadOf_len {ks : List KD} {n : Str} : (leadOf ks n).length ≤ ks.length := by
  unfold leadOf
  cases atName ks n with
  | none => exact Nat.zero_le _
  | some x =>
    show (ledBy ks x).length ≤ _
    unfold ledBy
    exact Nat.le_trans (List.length_filter_le _ _) (by rw [List.length_map]; exact Nat.le_refl _)
/-- a house is asked for one of its kinds -/
theorem askM {ans : List KD → KD → Hp → VK → Prop} {H : Hp} {s : Addr} {root : Str} {ks : List KD} {x : KD} {Q : VK} (ha : HouseAt K CF CK CH H s root ks) (mx : x ∈ ks) (ox : PyData.strOk x.n = true) (k : ans ks x H Q) : spM K CF CK CH CU ans [.ref s, .str x.n] H Q E0 := by
  refine ⟨s, _, .str x.n, root, ks, rfl, ha, .dat (.str _) (shaped_str ox), fun y my e => ?_, fun bad => ?_⟩
  · have en : x.n = y.n := PyData.str.inj e
    have a1 := ha.ok.atN mx
    have a2 := ha.ok.atN my
    rw [en, a2] at a1
    cases Option.some.inj a1
    exact k
  · rw [in_house mx] at bad
    cases bad
theorem shaped_strs {w : List Str} (h : ∀ x ∈ w, PyData.strOk x = true) : SeqAt.shaped (.list (w.map .str)) = true := by
  obtain ⟨w1, w2⟩ := all_lay w h
  simp [SeqAt.shaped, PyData.canLay0, PyData.depth, w1]
  omega
/-- two lists of the same names -/
theorem neS {H : Hp} {a b : Addr} {ws : List Str} {Q : VK} (ha : SqL K H a (ws.map V.str)) (hb : SqL K H b (ws.map V.str)) (ok : ∀ x ∈ ws, PyData.strOk x = true) (k : Q (.bl false) H) : rNeD K (.ref a) (.ref b) H Q := by
  have sh := shaped_strs ok
  refine ⟨.list (ws.map .str), .list (ws.map .str), .lst ha (dpAll_strs ws), .lst hb (dpAll_strs ws), sh, sh, ?_⟩
  rw [SeqAt.eqv_refl _ (Bool.and_eq_true_iff.mp sh).1]
  exact k
theorem fieldNamed_at {gs : List FV} {g : FV} (nd : (gs.map (·.n)).Nodup) (mg : g ∈ gs) : fieldNamed gs (.str g.n) = some g := by
  induction gs with
  | nil => cases mg
  | cons z gs ih =>
    rw [List.map_cons, List.nodup_cons] at nd
    simp only [fieldNamed] at ih ⊢
    rcases List.mem_cons.mp mg with rfl | mg
    · rw [List.find?_cons_of_pos (by simp)]
    · rw [List.find?_cons_of_neg (by
        simp only [decide_eq_true_eq]
        intro e
        exact nd.1 (e ▸ List.mem_map_of_mem mg))]
      exact ih nd.2 mg
theorem allF_mem {ks : List KD} {x : KD} {g : FV} (mx : x ∈ ks) (mg : g ∈ allF ks x) : ∃ y ∈ ks, g ∈ y.fs := by
  unfold allF at mg
  cases eb : x.b with
  | none =>
    rw [eb] at mg
    exact ⟨x, mx, mg⟩
  | some b =>
    rw [eb] at mg
    have mg : g ∈ baseFs ks b ++ x.fs := mg
    rcases List.mem_append.mp mg with mg | mg
    · unfold baseFs at mg
      cases ef : ks.find? fun e => decide (e.n = b) with
      | none => rw [ef] at mg; cases mg
      | some y =>
        rw [ef] at mg
        exact ⟨y, List.mem_of_find?_eq_some ef, mg⟩
    · exact ⟨x, mx, mg⟩
theorem HouseOk.fnd {root : Str} {ks : List KD} {x : KD} (h : HouseOk root ks) (mx : x ∈ ks) : ((allF ks x).map (·.n)).Nodup := by
  obtain ⟨i, e⟩ := HouseOk.at_mem mx
  rw [← h.all e]
  exact (h.alone i x e).diff
theorem HouseOk.rowsOk {root : Str} {ks : List KD} (h : HouseOk root ks) (rv : ∀ x ∈ ks, RowV x) : RowsOk ks := AllAlone.ok h.alone rv h.n12
theorem dp_strs {H : Hp} {a : Addr} {ws : List Str} (h : SqL K H a (ws.map V.str)) : Dp K H (.ref a) (.list (ws.map .str)) := .lst h (dpAll_strs ws)
theorem Same.free2 {H H' : Hp} {D : Addr} (s : Same H H') (h : H' D = none) : H D = none := by
  cases e : H D with
  | none => rfl
  | some o => rw [s _ _ e] at h; cases h
theorem lay_ll : ∀ wss : List (List Str), (∀ ws ∈ wss, ∀ x ∈ ws, PyData.strOk x = true) → PyData.canLayAll0 (wss.map fun ws => PyData.list (ws.map .str)) = true ∧ PyData.depthAll (wss.map fun ws => PyData.list (ws.map .str)) ≤ 2
  | [], _ => by simp [PyData.canLayAll0, PyData.depthAll]
  | ws :: wss, h => by
    obtain ⟨h1, h2⟩ := lay_ll wss fun w m => h w (List.mem_cons_of_mem _ m)
    obtain ⟨w1, w2⟩ := all_lay ws (h ws List.mem_cons_self)
    refine ⟨?_, ?_⟩
    · simp only [List.map_cons, PyData.canLayAll0, PyData.canLay0, w1, h1, Bool.and_self]
    · simp only [List.map_cons, PyData.depthAll, PyData.depth]
      omega
theorem shaped_ll {wss : List (List Str)} (h : ∀ ws ∈ wss, ∀ x ∈ ws, PyData.strOk x = true) : SeqAt.shaped (.list (wss.map fun ws => PyData.list (ws.map .str))) = true := by
  obtain ⟨w1, w2⟩ := lay_ll wss h
  simp [SeqAt.shaped, PyData.canLay0, PyData.depth, w1]
  omega
/-- lists of names, told twice -/
theorem neSS {H : Hp} {a b : Addr} {xs ys : List V} {wss : List (List Str)} {Q : VK} (ha : SqL K H a xs) (hb : SqL K H b ys) (da : DpAll K H xs (wss.map fun ws => PyData.list (ws.map .str))) (db : DpAll K H ys (wss.map fun ws => PyData.list (ws.map .str)))
    (ok : ∀ ws ∈ wss, ∀ x ∈ ws, PyData.strOk x = true) (k : Q (.bl false) H) : rNeD K (.ref a) (.ref b) H Q := by
  have sh := shaped_ll ok
  refine ⟨_, _, .lst ha da, .lst hb db, sh, sh, ?_⟩
  rw [SeqAt.eqv_refl _ (Bool.and_eq_true_iff.mp sh).1]
  exact k
abbrev sLl : Stmt := top 58
abbrev nLl : List Str := ["_law_house", "_law_rows", "_law_name", "_law_fields", "_law_told", "_law_k", "_law_marks", "_law_slots", "_law_spoilt", "_law_own_heirs", "_law_due", "_law_turn", "_law_lists_here", "_law_field_here", "_law_row_here"]
def spLl (K : PySem.W.Frag) (CF CK CH : Addr) : Sp := fun vs H Q _ => ∃ (s l : Addr) (root : Str) (rs : List KD) (x : KD), vs = [.ref s, .ref l, .str x.n] ∧ HouseAt K CF CK CH H s root rs ∧ RowsL K H l rs ∧ (∀ y ∈ rs, RowV y) ∧ x ∈ rs ∧ ∀ H', Same H H' → Q (.bl true) H'
theorem scLl : FnScope nLl ["_law_house", "_law_rows", "_law_name"] (defScope sLl) := ⟨rfl, rfl, rfl, by decide +kernel, rfl, by decide +kernel, by decide +kernel⟩
theorem ok_Ll {f f1 f2 f3 f4 f5 f6 f7 f8 f9 f10 f11 f12 f13 f14 : Addr} {fd fd1 fd2 fd3 fd4 fd5 fd6 fd7 fd8 fd9 fd10 fd11 fd12 fd13 fd14 : FuncData} (F : Fun K "_law_lists" "_law_lists" sLl f fd) (B : Bn mg) (HC : PlainC K CH houseAt)
    (AF : Known P w K mg base CX0 3 "_law_all_fields" ["_law_rows", "_law_name"] (spAf K true) f1 fd1) (FSH : Known P w K mg base CX0 2 "_law_field_shows" ["_law_field_here", "_law_due"] (spFsh K CF) f2 fd2) (LE : Known P w K mg base CX0 4 "_law_leads" ["_law_rows", "_law_name"] (spLe K) f3 fd3) (FR : Known P w K mg base CX0 5 "_law_leads_far" ["_law_rows", "_law_name"] (spFr K) f4 fd4)
    (AD : Known P w K mg base CX0 1 "_law_admitted" ["_law_rows", "_law_own_target"] (spAd K) f5 fd5) (FO : KMt P w K mg base CH (L2N.CX P w) 4 "fields_of" nFo (spM K CF CK CH CU (aFo K CF)) f6 fd6) (MO : KMt P w K mg base CH (L2N.CX P w) 5 "marks_of" ["self", "kind"] (spM K CF CK CH CU (aWs marksK)) f7 fd7)
    (SO : KMt P w K mg base CH (L2N.CX P w) 5 "slots_of" ["self", "kind"] (spM K CF CK CH CU (aWs slotsK)) f8 fd8) (LS : KMt P w K mg base CH (L2N.CX P w) 4 "leads" ["self", "kind"] (spM K CF CK CH CU (aWs fun ks x => leadOf ks x.n)) f9 fd9) (LF : KMt P w K mg base CH (L2N.CX P w) 4 "leads_far" ["self", "kind"] (spM K CF CK CH CU (aWs fun ks x => farK ks x.n)) f10 fd10)
    (HO_ : KMt P w K mg base CH (L2N.CX P w) 4 "heirs_of" ["self", "kind"] (spM K CF CK CH CU (aWs heirsK)) f11 fd11) (AM : KMt P w K mg base CH (L2N.CX P w) 3 "admitted" ["self", "target"] (spAm2 K CF CK CH CU) f12 fd12) (FD : KMt P w K mg base CH (L2N.CX P w) 4 "field_of" ["self", "kind", "name"] (spFd K CF CK CH CU CV) f13 fd13) (FE : EqM P w K mg base CF 1 (spFE K CF) f14 fd14) :
    FnOk P w K mg base CX0 7 f fd ["_law_house", "_law_rows", "_law_name"] (spLl K CF CK CH) := by
  refine F.ok scLl (fun vs H Q E h => ?_) (fun cdv A outer s0 H vs Q E hr h => ?_)
  · obtain ⟨s, l, root, rs, x, rfl, _⟩ := h
    rfl
  · obtain ⟨s, l, root, rs, x, rfl, ha, R, rv, mx, k⟩ := h
    have hu := hu_of hr
    have ok := ha.ok
    have ro := ok.rowsOk rv
    have ox : PyData.strOk x.n = true := (Bool.and_eq_true_iff.mp (rv x mx).good.n).1
    have fok : ∀ g ∈ allF rs x, FldOk g := fun g mg => let ⟨y, my, h⟩ := allF_mem mx mg; (rv y my).fs g h
    have gok : ∀ g ∈ allF rs x, PyData.strOk g.n = true := fun g mg => (field_ok (fok g mg).right.n).1
    have nok : ∀ n ∈ rs.map (·.n), PyData.strOk n = true := fun n m => let ⟨y, my, e⟩ := List.mem_map.mp m; e ▸ (Bool.and_eq_true_iff.mp (rv y my).good.n).1
    have few := ok.few mx
    have n12 := ok.n12
    have atx := atName_of ro.nd mx
    obtain ⟨hx, _, _, _, _, _, _, hs, _⟩ := id ha.ex
    obtain ⟨rus, hl, rev⟩ := id R
    refine ⟨_, 
      (pss_cons (ps_set (i := 3) scLl.nd rfl (.inl rfl) (pe_call AF.ok (hr.mono (by decide)) rfl AF.mg AF.kp AF.bi .nil pass0 (pa_cons (pv 1) (pa_cons (pv 2) pa_nil))))
      (pss_cut (ps_set (i := 4) scLl.nd rfl (.inl rfl) (pe_meth (pv 0) HC.cl FO.mt FO.ok (hr.mono (by decide)) FO.bi .nil passLN (pa_cons (pv 2) pa_nil)))
      (pss_cons (ps_if (PW.pt (pw_or (pt_not (pt_val (pe_callB call_isi (by rfl) B.isi boot_isi (pa_cons (pv 4) (pa_cons (pe_bltn (v := .ty "list") (by rfl) B.list PyProof.Rows.boot_list rfl) pa_nil))))) (pw_or1 (pt_cmpR op_ne (pe_callB call_len_seq (by rfl) B.len PySem.boot_len (pa_cons (pv 4) pa_nil)) (pe_callB call_len_seq (by rfl) B.len PySem.boot_len (pa_cons (pv 3) pa_nil)) (nomark _))))) 
        (pss_one (ps_ret pe_bl)) pss_nil)
      (pss_cons (ps_for PassesOwn.never rfl (pi_range1 rfl B.range (pa_cons (pe_callB call_len_seq (by rfl) B.len PySem.boot_len (pa_cons (pv 3) pa_nil)) pa_nil)) (pg_name (i := 5) scLl.nd rfl (Or.inl rfl)) 
        (pss_one (ps_if (PW.pt (pw_or (pt_not (pt_val (pe_call FSH.ok (hr.mono (by decide)) rfl FSH.mg FSH.kp FSH.bi .nil pass0 (pa_cons (pe_ix ix_list (pv 4) (pv 5) (fun _ _ => rfl)) (pa_cons (pe_ix ix_list (pv 3) (pv 5) (fun _ _ => rfl)) pa_nil))))) (pw_or1 (pt_cmpR (op_ownNe FE.ok FE.bi pass0 FE.own (hr.mono (by decide))) (pe_meth (pv 0) HC.cl FD.mt FD.ok (hr.mono (by decide)) FD.bi .nil passLN (pa_cons (pv 2) (pa_cons (pe_ix ix_tup (pe_ix ix_list (pv 3) (pv 5) (fun _ _ => rfl)) pe_int (fun _ _ => rfl)) pa_nil))) (pe_ix ix_list (pv 4) (pv 5) (fun _ _ => rfl)) (nomark _))))) 
          (pss_one (ps_ret pe_bl)) pss_nil)))
      (pss_cut (ps_expr (pe_bm PySem.F.plainAttrs_list PySem.F.slot_list_append PySem.F.type_list_append mt_append (pv 4) (pa_cons pe_non pa_nil)))
      (pss_cons (ps_setLc (i := 6) (own := [("_law_field_here", 13)]) (g := gName 13) (te := (tOp (rIxT K) (tVar 13) (tC (.int 0)))) (tt := (tTest (tOp rEq (tOp (rIxT K) (tVar 13) (tC (.int 1))) (tC (.str "mark"))))) rfl scLl.nd rfl rfl (sw_true rfl rfl rfl (by decide +kernel)) (pi_list (pv 3)) (blkOk_by (N := nLl) (sc := defScope sLl) (by decide +kernel)) (fun _ _ _ _ _ => pg_name (i := 13) scLl.nd rfl (Or.inl rfl)) (fun _ _ _ _ _ => pts_one (pt_cmpR op_eq (pe_ix ix_tup (pv 13) pe_int (fun _ _ => rfl)) pe_str (nomark _))) (fun _ _ _ _ _ => (pe_ix ix_tup (pv 13) pe_int (fun _ _ => rfl))))
      (pss_cons (ps_setLc (i := 7) (own := [("_law_field_here", 13)]) (g := gName 13) (te := (tOp (rIxT K) (tVar 13) (tC (.int 0)))) (tt := (tTest (tOp rNe (tOp (rIxT K) (tVar 13) (tC (.int 1))) (tC (.str "mark"))))) rfl scLl.nd rfl rfl (sw_true rfl rfl rfl (by decide +kernel)) (pi_list (pv 3)) (blkOk_by (N := nLl) (sc := defScope sLl) (by decide +kernel)) (fun _ _ _ _ _ => pg_name (i := 13) scLl.nd rfl (Or.inl rfl)) (fun _ _ _ _ _ => pts_one (pt_cmpR op_ne (pe_ix ix_tup (pv 13) pe_int (fun _ _ => rfl)) pe_str (nomark _))) (fun _ _ _ _ _ => (pe_ix ix_tup (pv 13) pe_int (fun _ _ => rfl))))
      (pss_cut (ps_if (PW.pt (pw_or (pt_cmpR (op_neD hr.units) (pe_meth (pv 0) HC.cl MO.mt MO.ok (hr.mono (by decide)) MO.bi .nil passLN (pa_cons (pv 2) pa_nil)) (pv 6) (nomark _)) (pw_or (pt_cmpR (op_neD hr.units) (pe_meth (pv 0) HC.cl SO.mt SO.ok (hr.mono (by decide)) SO.bi .nil passLN (pa_cons (pv 2) pa_nil)) (pv 7) (nomark _)) (pw_or1 (pt_cmpR op_ne (pe_callB call_len_seq (by rfl) B.len PySem.boot_len (pa_cons (pe_meth (pv 0) HC.cl FO.mt FO.ok (hr.mono (by decide)) FO.bi .nil passLN (pa_cons (pv 2) pa_nil)) pa_nil)) (pe_callB call_len_seq (by rfl) B.len PySem.boot_len (pa_cons (pv 3) pa_nil)) (nomark _)))))) 
        (pss_one (ps_ret pe_bl)) pss_nil)
      (pss_cons (ps_set (i := 8) scLl.nd rfl (.inl rfl) (pe_meth (pv 0) HC.cl LS.mt LS.ok (hr.mono (by decide)) LS.bi .nil passLN (pa_cons (pv 2) pa_nil)))
      (pss_cons (ps_if (PW.pt (pw_or (pt_not (pt_val (pe_callB call_isi (by rfl) B.isi boot_isi (pa_cons (pv 8) (pa_cons (pe_bltn (v := .ty "list") (by rfl) B.list PyProof.Rows.boot_list rfl) pa_nil))))) (pw_or1 (pt_cmpR (op_neD hr.units) (pv 8) (pe_call LE.ok (hr.mono (by decide)) rfl LE.mg LE.kp LE.bi .nil pass0 (pa_cons (pv 1) (pa_cons (pv 2) pa_nil))) (nomark _))))) 
        (pss_one (ps_ret pe_bl)) pss_nil)
      (pss_cut (ps_expr (pe_bm PySem.F.plainAttrs_list PySem.F.slot_list_append PySem.F.type_list_append mt_append (pv 8) (pa_cons pe_str pa_nil)))
      (pss_cons (ps_if (PW.pt (pw_or (pt_cmpR (op_neD hr.units) (pe_meth (pv 0) HC.cl LS.mt LS.ok (hr.mono (by decide)) LS.bi .nil passLN (pa_cons (pv 2) pa_nil)) (pe_call LE.ok (hr.mono (by decide)) rfl LE.mg LE.kp LE.bi .nil pass0 (pa_cons (pv 1) (pa_cons (pv 2) pa_nil))) (nomark _)) (pw_or1 (pt_cmpR (op_neD hr.units) (pe_meth (pv 0) HC.cl LF.mt LF.ok (hr.mono (by decide)) LF.bi .nil passLN (pa_cons (pv 2) pa_nil)) (pe_call FR.ok (hr.mono (by decide)) rfl FR.mg FR.kp FR.bi .nil pass0 (pa_cons (pv 1) (pa_cons (pv 2) pa_nil))) (nomark _))))) 
        (pss_one (ps_ret pe_bl)) pss_nil)
      (pss_cut (ps_setLc (i := 9) (own := [("_law_row_here", 14)]) (g := gName 14) (te := (tDGet (tVar 14) (tC (.str "name")))) (tt := (tTest (tOp rEq (tDGet (tVar 14) (tC (.str "base"))) (tVar 2)))) rfl scLl.nd rfl rfl (sw_true rfl rfl rfl (by decide +kernel)) (pi_list (pv 1)) (blkOk_by (N := nLl) (sc := defScope sLl) (by decide +kernel)) (fun _ _ _ _ _ => pg_name (i := 14) scLl.nd rfl (Or.inl rfl)) (fun _ _ _ _ _ => pts_one (pt_cmpR op_eq (pe_dget hu (pv 14) pe_str (fun _ _ => rfl)) (pv 2) (nomark _))) (fun _ _ _ _ _ => (pe_dget hu (pv 14) pe_str (fun _ _ => rfl))))
      (pss_cons (ps_set (i := 10) scLl.nd rfl (.inl rfl) (pe_lst (pa_cons (pv 6) (pa_cons (pv 7) (pa_cons (pe_call FR.ok (hr.mono (by decide)) rfl FR.mg FR.kp FR.bi .nil pass0 (pa_cons (pv 1) (pa_cons (pv 2) pa_nil))) (pa_cons (pv 9) (pa_cons (pe_call AD.ok (hr.mono (by decide)) rfl AD.mg AD.kp AD.bi .nil pass0 (pa_cons (pv 1) (pa_cons (pv 2) pa_nil))) pa_nil)))))))
      (pss_cons (ps_for PassesOwn.never rfl (pi_range1 rfl B.range (pa_cons pe_int pa_nil)) (pg_name (i := 11) scLl.nd rfl (Or.inl rfl)) 
        (pss_cons (ps_set (i := 12) scLl.nd rfl (.inl rfl) (pe_lst (pa_cons (pe_meth (pv 0) HC.cl MO.mt MO.ok (hr.mono (by decide)) MO.bi .nil passLN (pa_cons (pv 2) pa_nil)) (pa_cons (pe_meth (pv 0) HC.cl SO.mt SO.ok (hr.mono (by decide)) SO.bi .nil passLN (pa_cons (pv 2) pa_nil)) (pa_cons (pe_meth (pv 0) HC.cl LF.mt LF.ok (hr.mono (by decide)) LF.bi .nil passLN (pa_cons (pv 2) pa_nil)) (pa_cons (pe_meth (pv 0) HC.cl HO_.mt HO_.ok (hr.mono (by decide)) HO_.bi .nil passLN (pa_cons (pv 2) pa_nil)) (pa_cons (pe_meth (pv 0) HC.cl AM.mt AM.ok (hr.mono (by decide)) AM.bi .nil passLN (pa_cons (pv 2) pa_nil)) pa_nil)))))))
        (pss_cons (ps_if (pt_cmpR (op_neD hr.units) (pv 12) (pv 10) (nomark _)) 
          (pss_one (ps_ret pe_bl)) pss_nil)
        (pss_one (ps_for PassesOwn.never rfl (pi_range1 rfl B.range (pa_cons pe_int pa_nil)) (pg_name (i := 5) scLl.nd rfl (Or.inl rfl)) 
          (pss_one (ps_expr (pe_bm PySem.F.plainAttrs_list PySem.F.slot_list_append PySem.F.type_list_append mt_append (pe_ix ix_list (pv 12) (pv 5) (fun _ _ => rfl)) (pa_cons pe_str pa_nil)))))))))
      (pss_one (ps_ret pe_bl))))))))))))))))), ?_⟩
    refine ⟨_, rfl, _, rfl, l, x.n, rs, x, rfl, R, by omega, atx, fun z ez => ⟨rfl, ro.base x mx z ez⟩, by omega, fun a us H1 fa ea ev s1 => ?_⟩
    refine ⟨fun σ H2 => ∃ (b : Addr) (ws : List V), σ = [some (.ref s), some (.ref l), some (.str x.n), some (.ref a), some (.ref b), none, none, none, none, none, none, none, none, none, none] ∧ H1 b = none ∧ H2 b = some (.lst ws) ∧ Ev (rF K CF) H2 ws (allF rs x) ∧ Same H1 H2, ?_, ?_⟩
    · exact ⟨_, rfl, s, hx, _, rfl, s1 _ _ hs, rfl, _, rfl, askM (ha.same s1) mx ox fun b H2 ws fb s2 eb ew => ⟨b, ws, rfl, fb, eb, ew, s2⟩⟩
    rintro _ H2 ⟨b, ws, rfl, fb, eb, ew, s2⟩
    have ea2 := s2 _ _ ea
    have ev2 := ev.same (mLF K) s2
    have lu := ev.1
    have lw := ew.1
    refine ⟨_, rfl, _, _, _, _, _, rfl, .ty "list", SqL.ty (SqL.of eb), kit_list (.list []), _, rfl, iteF ⟨_, rfl, b, ws, rfl, .inl (SqL.of eb), _, rfl, a, us, rfl, .inl (SqL.of ea2), rfl, _, rfl, ?_⟩⟩
    rw [lw, lu, show (!decide (V.int ((allF rs x).length : Nat) = V.int ((allF rs x).length : Nat))) = false by simp]
    refine iteF ⟨_, rfl, a, us, rfl, .inl (SqL.of ea2), ?_⟩
    refine ⟨((allF rs x).length : Nat), by rw [lu], by omega, by omega, ?_⟩
    refine for_it walk_range (fun i σ H' => ∃ v5, σ = [some (.ref s), some (.ref l), some (.str x.n), some (.ref a), some (.ref b), v5, none, none, none, none, none, none, none, none, none] ∧ Same H2 H') ⟨none, rfl, Same.refl _⟩ (fun _ _ _ _ _ => trivial) ?_ ?_
    · rintro i y σ _ H3 hi ⟨v5, rfl, s3⟩ ⟨rfl, rfl⟩
      have s13 := s2.trans s3
      have hg : (allF rs x)[i]? = some (allF rs x)[i] := List.getElem?_eq_getElem hi
      obtain ⟨g, eg⟩ : ∃ g, (allF rs x)[i] = g := ⟨_, rfl⟩
      rw [eg] at hg
      have mg := List.mem_of_getElem? hg
      obtain ⟨u, hu1, ru⟩ := ev_back ev2 hg
      obtain ⟨v, hv1, rv1⟩ := ev_back ew hg
      obtain ⟨ft, wt, rfl, hft, hwt⟩ := id ru
      obtain ⟨bv, rfl, fbv⟩ := id rv1
      obtain ⟨dv, wv, hbv, _⟩ := id fbv.ex
      have s23 := s2.trans s3
      refine ⟨_, rfl, _, rfl, b, ws, _, _, rfl, rfl, SqL.of (s3 _ _ eb), (atI_nat (by rw [Nat.zero_add]; exact hv1)), _, rfl, _, rfl, a, us, _, _, rfl, rfl, SqL.of (s23 _ _ ea), (atI_nat (by rw [Nat.zero_add]; exact hu1)), ?_⟩
      refine ⟨_, _, g, rfl, mF K CF _ _ _ _ (.of s3) rv1, sLF s3 ru, fok g mg, fun H4 s4 => ⟨_, rfl, iteF ?_⟩⟩
      have s14 := s13.trans s4
      have s24 := s3.trans s4
      refine ⟨_, rfl, s, hx, _, rfl, (s1.trans (s2.trans s24)) _ _ hs, rfl, _, rfl, _, rfl, _, rfl, a, us, _, _, rfl, rfl, SqL.of ((s2.trans s24) _ _ ea), (atI_nat (by rw [Nat.zero_add]; exact hu1)), _, _, _, _, rfl, rfl, s24.sqT hft, atI_nat (j := 0) rfl, ?_⟩
      refine ⟨s, .str x.n, .str g.n, .str x.n, .str g.n, root, rs, rfl, ha.same (s1.trans (s2.trans s24)), .dat (.str _) (shaped_str ox), .dat (.str _) (shaped_str (gok g mg)), fun _ => rfl, fun bad => (by rw [in_house mx] at bad; cases bad), fun y my e => ?_⟩
      have en : y = x := by
        have e9 : x.n = y.n := PyData.str.inj e
        have a1 := ha.ok.atN mx
        have a2 := ha.ok.atN my
        rw [e9, a2] at a1
        exact Option.some.inj a1
      subst en
      refine ⟨fun g2 e2 u2 r2 => ?_, fun no => (by rw [fieldNamed_at (ok.fnd mx) mg] at no; cases no)⟩
      rw [fieldNamed_at (ok.fnd mx) mg] at e2
      cases e2
      obtain ⟨b2, rfl, fb2⟩ := id r2
      obtain ⟨d2, w2, hb2, _⟩ := id fb2.ex
      have fbv2 : FieldAt K CF H4 bv g := let ⟨_, e, h⟩ := mF K CF _ _ _ _ (.of s24) rv1; (by cases e; exact h)
      refine ⟨_, rfl, _, rfl, b, ws, _, _, rfl, rfl, SqL.of (s24 _ _ eb), (atI_nat (by rw [Nat.zero_add]; exact hv1)), ?_⟩
      refine ⟨b2, d2, _, rfl, hb2, .ins bv CF dv _ (s24 _ _ hbv) FE.nf, b2, .ref bv, g, rfl, fb2, .inl ⟨bv, g, rfl, fbv2, _, rfl, ?_⟩⟩
      rw [decide_eq_true rfl]
      exact ⟨_, rfl, iteF ⟨_, rfl, s24⟩⟩
    rintro σ H3 ⟨v5, rfl, s3⟩
    have s13 := s2.trans s3
    refine ⟨fun σ H4 => σ = [some (.ref s), some (.ref l), some (.str x.n), some (.ref a), some (.ref b), v5, none, none, none, none, none, none, none, none, none] ∧ Same H1 H4, ?_, ?_⟩
    · exact ⟨_, rfl, .inl ⟨rfl, _, SqL.of (s3 _ _ eb)⟩, b, ws, .non, rfl, rfl, s3 _ _ eb, by rw [lw, sizeLine_eq]; omega, rfl, s13.over fb⟩
    rintro _ H4 ⟨rfl, s4⟩
    have s04 := s1.trans s4
    have okM : ∀ n ∈ marksK rs x, PyData.strOk n = true := fun n m => let ⟨g, mg, e⟩ := List.mem_map.mp m; e ▸ gok g (List.mem_filter.mp mg).1
    have okS : ∀ n ∈ slotsK rs x, PyData.strOk n = true := fun n m => let ⟨g, mg, e⟩ := List.mem_map.mp m; e ▸ gok g (List.mem_filter.mp mg).1
    refine ⟨_, rfl, a, rfl, ⟨us, SqL.of (s4 _ _ ea)⟩, fun M fM => ?_⟩
    refine lc_sieve (mLF K) mW (fun g => decide (g.m = ("mark" : Str))) (fun g => g.n) walk_list (by omega) (fun H' s => SqL.of (s _ _ (s4 _ _ ea))) fM (ev.same (mLF K) s4) ?_ ?_ ?_
    · rintro _ g H5 Rq _ _ ⟨t, wt, rfl, ht, hwt⟩ kk
      refine ⟨_, rfl, t, _, _, _, rfl, rfl, ht, atI_nat (j := 1) rfl, rfl, _, rfl, ?_⟩
      rw [dec_s]
      exact kk _ (Same.refl _)
    · rintro _ g H5 Rq _ _ _ ⟨t, wt, rfl, ht, hwt⟩ kk
      exact ⟨_, rfl, t, _, _, _, rfl, rfl, ht, atI_nat (j := 0) rfl, kk _ _ (Same.refl _) rfl⟩
    intro H5 zs s5 hM ez
    cases ev_words_eq ez
    have s15 := s4.trans s5
    refine ⟨_, rfl, a, rfl, ⟨us, SqL.of (s15 _ _ ea)⟩, fun S fS => ?_⟩
    refine lc_sieve (mLF K) mW (fun g => !decide (g.m = ("mark" : Str))) (fun g => g.n) walk_list (by omega) (fun H' s => SqL.of (s _ _ (s15 _ _ ea))) fS (ev.same (mLF K) s15) ?_ ?_ ?_
    · rintro _ g H5 Rq _ _ ⟨t, wt, rfl, ht, hwt⟩ kk
      refine ⟨_, rfl, t, _, _, _, rfl, rfl, ht, atI_nat (j := 1) rfl, rfl, _, rfl, ?_⟩
      rw [dec_s]
      exact kk _ (Same.refl _)
    · rintro _ g H5 Rq _ _ _ ⟨t, wt, rfl, ht, hwt⟩ kk
      exact ⟨_, rfl, t, _, _, _, rfl, rfl, ht, atI_nat (j := 0) rfl, kk _ _ (Same.refl _) rfl⟩
    intro H6 zs s6 hS ez
    cases ev_words_eq ez
    have hM6 : H6 M = some (.lst ((marksK rs x).map V.str)) := s6 _ _ hM
    have hS6 : H6 S = some (.lst ((slotsK rs x).map V.str)) := hS
    have s16 := s15.trans s6
    have s06 := s1.trans s16
    refine ⟨fun σ H7 => σ = [some (.ref s), some (.ref l), some (.str x.n), some (.ref a), some (.ref b), v5, some (.ref M), some (.ref S), none, none, none, none, none, none, none] ∧ Same H6 H7, ?_, ?_⟩
    · refine ⟨_, rfl, s, hx, _, rfl, s06 _ _ hs, rfl, _, rfl, askM (ha.same s06) mx ox fun D1 H7 f1 s7 e1 => ?_⟩
      refine ⟨_, rfl, neS (SqL.of e1) (SqL.of (s7 _ _ hM6)) okM ⟨_, rfl, iteF ?_⟩⟩
      refine ⟨_, rfl, s, hx, _, rfl, (s06.trans s7) _ _ hs, rfl, _, rfl, askM (ha.same (s06.trans s7)) mx ox fun D2 H8 f2 s8 e2 => ?_⟩
      have s68 := s7.trans s8
      refine ⟨_, rfl, neS (SqL.of e2) (SqL.of (s68 _ _ hS6)) okS ⟨_, rfl, iteF ?_⟩⟩
      refine ⟨_, rfl, s, hx, _, rfl, (s06.trans s68) _ _ hs, rfl, _, rfl, askM (ha.same (s06.trans s68)) mx ox fun D3 H9 us3 f3 s9 e3 ev3 => ?_⟩
      have s69 := s68.trans s9
      refine ⟨D3, us3, rfl, .inl (SqL.of e3), _, rfl, a, us, rfl, .inl (SqL.of ((s16.trans s69) _ _ ea)), rfl, _, rfl, ?_⟩
      rw [ev3.1, lu, show (!decide (V.int ((allF rs x).length : Nat) = V.int ((allF rs x).length : Nat))) = false by simp]
      exact iteF ⟨rfl, s69⟩
    rintro _ H7 ⟨rfl, s7⟩
    have s07 := s06.trans s7
    have okL : ∀ n ∈ leadOf rs x.n, PyData.strOk n = true := fun n m => nok n (leadOf_sub m)
    have okF : ∀ n ∈ farK rs x.n, PyData.strOk n = true := fun n m => nok n (far_mem.1 n m)
    refine ⟨_, rfl, s, hx, _, rfl, s07 _ _ hs, rfl, _, rfl, askM (ha.same s07) mx ox fun Sp H8 f8 s8 e8 => ?_⟩
    have s08 := s07.trans s8
    refine ⟨_, rfl, _, _, _, _, _, rfl, .ty "list", SqL.ty (SqL.of e8), kit_list (.list []), _, rfl, iteF ?_⟩
    refine ⟨_, rfl, _, rfl, _, rfl, l, rs, x, rfl, R.same s08, ro, mx, fun D H9 e9 s9 => neS (SqL.of (s9 _ _ e8)) (SqL.of e9) okL ⟨_, rfl, iteF ?_⟩⟩
    refine ⟨fun σ HA => σ = [some (.ref s), some (.ref l), some (.str x.n), some (.ref a), some (.ref b), v5, some (.ref M), some (.ref S), some (.ref Sp), none, none, none, none, none, none] ∧ Same H7 HA, ?_, ?_⟩
    · refine ⟨_, rfl, .inl ⟨rfl, _, SqL.of (s9 _ _ e8)⟩, Sp, _, _, rfl, rfl, s9 _ _ e8, ?_, rfl, (s8.trans s9).over f8⟩
      have : ((fun ks x => leadOf ks x.n) rs x).length ≤ rs.length := leadOf_len
      rw [List.length_map, sizeLine_eq]
      omega
    rintro _ HA ⟨rfl, sA⟩
    have s0A := s07.trans sA
    have s7A := s7.trans sA
    refine ⟨_, rfl, s, hx, _, rfl, s0A _ _ hs, rfl, _, rfl, askM (ha.same s0A) mx ox fun D1 HB f1 sB e1 => ?_⟩
    have s0B := s0A.trans sB
    refine ⟨_, rfl, _, rfl, l, rs, x, rfl, R.same s0B, ro, mx, fun D2 HC2 e2 sC => neS (SqL.of (sC _ _ e1)) (SqL.of e2) okL ⟨_, rfl, iteF ?_⟩⟩
    have s0C := s0B.trans sC
    refine ⟨_, rfl, s, hx, _, rfl, s0C _ _ hs, rfl, _, rfl, askM (ha.same s0C) mx ox fun D3 HD f3 sD e3 => ?_⟩
    have s0D := s0C.trans sD
    refine ⟨_, rfl, _, rfl, l, rs, x, rfl, R.same s0D, ro, mx, fun D4 HE e4 sE => neS (SqL.of (sE _ _ e3)) (SqL.of e4) okF ⟨_, rfl, iteF ?_⟩⟩
    have s0E := s0D.trans sE
    have sAE := sB.trans (sC.trans (sD.trans sE))
    have s6E := s7A.trans sAE
    clear e1 e2 e3 e4 f1 f3
    -- the heirs by the rows
    refine ⟨fun σ HF => ∃ Hr : Addr, σ = [some (.ref s), some (.ref l), some (.str x.n), some (.ref a), some (.ref b), v5, some (.ref M), some (.ref S), some (.ref Sp), some (.ref Hr), none, none, none, none, none] ∧ HF Hr = some (.lst ((heirsK rs x).map V.str)) ∧ Same HE HF, ?_, ?_⟩
    · refine ⟨_, rfl, l, rfl, ⟨rus, s0E.seq hl⟩, fun Hr fHr => ?_⟩
      refine lc_sieve (R := cR (rRow K) H) (R2 := rW) mR mW (fun y => decide (tv y.b = V.str x.n)) (fun y => y.n) (cs := rs) walk_list (by omega) (fun H' s => (s0E.trans s).seq hl) fHr (evB rev _) ?_ ?_ ?_
      · rintro v y HF Rq my sF r kk
        obtain ⟨d, lo, ws2, rfl, hd, _⟩ := rRow_same (s0E.trans sF) (show rRow K H v y from r)
        refine ⟨_, rfl, d, _, rfl, g_base hd, _, rfl, by cases y.b <;> rfl, _, rfl, kk _ (Same.refl _)⟩
      · rintro v y HF Rq my _ sF r kk
        obtain ⟨d, lo, ws2, rfl, hd, _⟩ := rRow_same (s0E.trans sF) (show rRow K H v y from r)
        exact ⟨_, rfl, d, _, rfl, g_name hd, kk _ _ (Same.refl _) rfl⟩
      intro HF zs sF hz ez
      cases ev_words_eq ez
      refine ⟨Hr, rfl, ?_, sF⟩
      rw [heirs_rows ro.nd]
      exact hz
    rintro _ HF ⟨Hr, rfl, eHr, sF⟩
    have s0F := s0E.trans sF
    have s6F := s6E.trans sF
    have okH : ∀ n ∈ heirsK rs x, PyData.strOk n = true := fun n m => nok n (List.mem_filter.mp m).1
    have okA : ∀ n ∈ admK rs x.n, PyData.strOk n = true := fun n m => nok n (List.mem_filter.mp m).1
    refine ⟨_, rfl, _, rfl, _, rfl, _, rfl, l, rs, x, rfl, R.same s0F, ro, mx, fun Fr HG eFr sG => ?_⟩
    have s0G := s0F.trans sG
    refine ⟨_, rfl, _, rfl, _, rfl, l, x.n, rs, rfl, R.same s0G, by omega, fun Ad HI eAd sI => ?_⟩
    have e9 : (rs.filter (admB x.n)).map (·.n) = admK rs x.n := by
      rw [admK_rows ro.nd]
      congr 2
      funext y
      unfold admB
      rw [Bool.or_assoc]
    rw [e9] at eAd
    refine ⟨by show 5 ≤ sizeLine; decide, fun Du fDu => ?_⟩
    have s6I := s6F.trans (sG.trans sI)
    have sDu := same_new (o := HO.lst [V.ref M, .ref S, .ref Fr, .ref Hr, .ref Ad]) fDu
    have eDu : upd HI Du (.lst [V.ref M, .ref S, .ref Fr, .ref Hr, .ref Ad]) Du = some (.lst [V.ref M, .ref S, .ref Fr, .ref Hr, .ref Ad]) := upd_same
    have dDu : DpAll K (upd HI Du (.lst [V.ref M, .ref S, .ref Fr, .ref Hr, .ref Ad])) [V.ref M, .ref S, .ref Fr, .ref Hr, .ref Ad] ([marksK rs x, slotsK rs x, farK rs x.n, heirsK rs x, admK rs x.n].map fun ws => PyData.list (ws.map .str)) :=
      .cons (dp_strs (SqL.of (sDu _ _ (s6I _ _ hM6)))) (.cons (dp_strs (SqL.of (sDu _ _ (s6I _ _ hS6)))) (.cons (dp_strs (SqL.of (sDu _ _ (sI _ _ eFr)))) (.cons (dp_strs (SqL.of (sDu _ _ ((sG.trans sI) _ _ eHr)))) (.cons (dp_strs (SqL.of (sDu _ _ eAd))) .nil))))
    obtain ⟨HJ, eHJ⟩ : ∃ HJ, upd HI Du (.lst [V.ref M, .ref S, .ref Fr, .ref Hr, .ref Ad]) = HJ := ⟨_, rfl⟩
    rw [eHJ] at sDu eDu dDu ⊢
    have s0J := s0G.trans (sI.trans sDu)
    have ok5 : ∀ ws ∈ [marksK rs x, slotsK rs x, farK rs x.n, heirsK rs x, admK rs x.n], ∀ z ∈ ws, PyData.strOk z = true := fun ws m => by
      simp only [List.mem_cons, List.not_mem_nil, or_false] at m
      rcases m with rfl | rfl | rfl | rfl | rfl
      · exact okM
      · exact okS
      · exact okF
      · exact okH
      · exact okA
    refine ⟨2, rfl, by decide, by decide, ?_⟩
    refine for_it walk_range (fun i σ H' => ∃ v5 v11 v12, σ = [some (.ref s), some (.ref l), some (.str x.n), some (.ref a), some (.ref b), v5, some (.ref M), some (.ref S), some (.ref Sp), some (.ref Hr), some (.ref Du), v11, v12, none, none] ∧ Same HJ H') ⟨v5, none, none, rfl, Same.refl _⟩ (fun _ _ _ _ _ => trivial) ?_ ?_
    · rintro i y σ _ H1 hi ⟨v5, v11, v12, rfl, t1⟩ ⟨rfl, rfl⟩
      have t01 := s0J.trans t1
      refine ⟨_, rfl, s, hx, _, rfl, t01 _ _ hs, rfl, _, rfl, askM (ha.same t01) mx ox fun D1 H2 f1 r1 e1 => ?_⟩
      have t02 := t01.trans r1
      refine ⟨_, rfl, s, hx, _, rfl, t02 _ _ hs, rfl, _, rfl, askM (ha.same t02) mx ox fun D2 H3 f2 r2 e2 => ?_⟩
      have t03 := t02.trans r2
      refine ⟨_, rfl, s, hx, _, rfl, t03 _ _ hs, rfl, _, rfl, askM (ha.same t03) mx ox fun D3 H4 f3 r3 e3 => ?_⟩
      have t04 := t03.trans r3
      refine ⟨_, rfl, s, hx, _, rfl, t04 _ _ hs, rfl, _, rfl, askM (ha.same t04) mx ox fun D4 H5 f4 r4 e4 => ?_⟩
      have t05 := t04.trans r4
      refine ⟨_, rfl, s, hx, _, rfl, t05 _ _ hs, rfl, _, rfl, s, .str x.n, .str x.n, root, rs, rfl, ha.same t05, .dat (.str _) (shaped_str ox), fun t et ht D5 H6 f5 r5 e5 => ?_, fun _ bad => (by rw [in_house mx] at bad; cases bad)⟩
      cases et
      refine ⟨by show 5 ≤ sizeLine; decide, fun L fL => ?_⟩
      have rL := same_new (o := HO.lst [V.ref D1, .ref D2, .ref D3, .ref D4, .ref D5]) fL
      have g4 := r5.trans rL
      have g3 := r4.trans g4
      have g2 := r3.trans g3
      have g1 := r2.trans g2
      have eL : upd H6 L (.lst [V.ref D1, .ref D2, .ref D3, .ref D4, .ref D5]) L = some (.lst [V.ref D1, .ref D2, .ref D3, .ref D4, .ref D5]) := upd_same
      obtain ⟨H7, eH7⟩ : ∃ H7, upd H6 L (.lst [V.ref D1, .ref D2, .ref D3, .ref D4, .ref D5]) = H7 := ⟨_, rfl⟩
      rw [eH7] at rL eL g1 g2 g3 g4 ⊢
      have t17 := r1.trans g1
      have tJ7 := t1.trans t17
      have dL : DpAll K H7 [V.ref D1, .ref D2, .ref D3, .ref D4, .ref D5] ([marksK rs x, slotsK rs x, farK rs x.n, heirsK rs x, admK rs x.n].map fun ws => PyData.list (ws.map .str)) :=
        .cons (dp_strs (SqL.of (g1 _ _ e1))) (.cons (dp_strs (SqL.of (g2 _ _ e2))) (.cons (dp_strs (SqL.of (g3 _ _ e3))) (.cons (dp_strs (SqL.of (g4 _ _ e4))) (.cons (dp_strs (SqL.of (rL _ _ e5))) .nil))))
      refine ⟨_, rfl, _, rfl, neSS (SqL.of eL) (SqL.of (tJ7 _ _ eDu)) dL ((dpAll_same tJ7 dDu)) ok5 ⟨_, rfl, iteF ?_⟩⟩
      refine ⟨5, rfl, by decide, by decide, ?_⟩
      have lnM : (marksK rs x).length ≤ 100 := by unfold marksK; rw [List.length_map]; exact Nat.le_trans (List.length_filter_le _ _) (by omega)
      have lnS : (slotsK rs x).length ≤ 100 := by unfold slotsK; rw [List.length_map]; exact Nat.le_trans (List.length_filter_le _ _) (by omega)
      have lnF : (farK rs x.n).length ≤ 100 := Nat.le_trans far_mem.2 (by rw [List.length_map]; omega)
      have lnH : (heirsK rs x).length ≤ 100 := Nat.le_trans (List.length_filter_le _ _) (by rw [List.length_map]; omega)
      have lnA : (admK rs x.n).length ≤ 100 := Nat.le_trans (List.length_filter_le _ _) (by rw [List.length_map]; omega)
      have atD : ∀ D ∈ [D1, D2, D3, D4, D5], H1 D = none ∧ D ≠ L ∧ ∃ xs, H7 D = some (.lst xs) ∧ xs.length ≤ 100 := fun D m => by
        simp only [List.mem_cons, List.not_mem_nil, or_false] at m
        have nL : ∀ {D : Addr} {o : HO}, H6 D = some o → D ≠ L := fun h e => by rw [e, fL] at h; cases h
        rcases m with rfl | rfl | rfl | rfl | rfl
        · exact ⟨f1, nL ((r2.trans (r3.trans (r4.trans r5))) _ _ e1), _, g1 _ _ e1, by rw [List.length_map]; exact lnM⟩
        · exact ⟨Same.free2 r1 f2, nL ((r3.trans (r4.trans r5)) _ _ e2), _, g2 _ _ e2, by rw [List.length_map]; exact lnS⟩
        · exact ⟨Same.free2 (r1.trans r2) f3, nL ((r4.trans r5) _ _ e3), _, g3 _ _ e3, by rw [List.length_map]; exact lnF⟩
        · exact ⟨Same.free2 (r1.trans (r2.trans r3)) f4, nL (r5 _ _ e4), _, g4 _ _ e4, by rw [List.length_map]; exact lnH⟩
        · exact ⟨Same.free2 (r1.trans (r2.trans (r3.trans r4))) f5, nL e5, _, rL _ _ e5, by rw [List.length_map]; exact lnA⟩
      refine for_it walk_range (fun j σ H' => ∃ v5 v11, σ = [some (.ref s), some (.ref l), some (.str x.n), some (.ref a), some (.ref b), v5, some (.ref M), some (.ref S), some (.ref Sp), some (.ref Hr), some (.ref Du), v11, some (.ref L), none, none] ∧ Same H1 H' ∧ H' L = some (.lst [V.ref D1, .ref D2, .ref D3, .ref D4, .ref D5]) ∧ ∀ D ∈ [D1, D2, D3, D4, D5], ∃ xs, H' D = some (.lst xs) ∧ xs.length ≤ 100 + j) ⟨v5, _, rfl, t17, eL, fun D m => (atD D m).2.2⟩ (fun _ _ _ _ _ => trivial) ?_ ?_
      · rintro j y σ _ H8 hj ⟨v5, v11, rfl, t8, e8, d8⟩ ⟨rfl, rfl⟩
        have hj : j < 5 := hj
        obtain ⟨D, hD⟩ : ∃ D, [D1, D2, D3, D4, D5][j]? = some D := ⟨_, List.getElem?_eq_getElem hj⟩
        have mD := List.mem_of_getElem? hD
        obtain ⟨xs, eD, lD⟩ := d8 D mD
        obtain ⟨n1, nL, _⟩ := atD D mD
        have hV : ([V.ref D1, .ref D2, .ref D3, .ref D4, .ref D5] : List V)[j]? = some (.ref D) := by
          show ([D1, D2, D3, D4, D5].map V.ref)[j]? = _
          rw [List.getElem?_map, hD]
          rfl
        refine ⟨_, rfl, _, rfl, L, _, _, _, rfl, rfl, SqL.of e8, (atI_nat (by rw [Nat.zero_add]; exact hV)), ?_⟩
        refine ⟨.inl ⟨rfl, _, SqL.of eD⟩, D, xs, .str "x", rfl, rfl, eD, by rw [sizeLine_eq]; omega, _, v11, rfl, t8.over n1, ?_, fun E mE => ?_⟩
        · rw [upd_ne (Ne.symm nL)]
          exact e8
        · by_cases q : E = D
          · subst q
            exact ⟨_, upd_same, by rw [List.length_append]; show xs.length + 1 ≤ _; omega⟩
          · obtain ⟨ys, e7, l7⟩ := d8 E mE
            exact ⟨ys, by rw [upd_ne q]; exact e7, by omega⟩
      · rintro σ H8 ⟨v5, v11, rfl, t8, _, _⟩
        exact ⟨v5, _, _, rfl, t1.trans t8⟩
    · rintro σ H1 ⟨v5, v11, v12, rfl, t1⟩
      exact k H1 (s0J.trans t1)
end
end Wh
set_option Elab.async false
set_option linter.all false
set_option maxRecDepth 100000
set_option maxHeartbeats 4000000
namespace Wp
open PySem L2 PySem.Spec PyProof.Rows
/-! ## repr of any of the law's values -/
inductive Dr (K : PySem.W.Frag) (H : Hp) : V → PyData → Prop
  | q {v : V} {d : PyData} : Dq K H v d → Dr K H v d
  | bad {a : Addr} {v : V} {d : PyData} : SqT K H a [.str "bad", v] → Dq K H v d → Dr K H (.ref a) (.tuple [.str "bad", d])
section
variable {X : Cx}
theorem noDict_of {d : PyData} (h : d.canLay0 = true) : d.hasDict = false := by
  have key : ∀ ds : List PyData, (∀ d ∈ ds, d.canLay0 = true → d.hasDict = false) → PyData.canLayAll0 ds = true → PyData.hasDictAll ds = false := by
    intro ds
    induction ds with
    | nil => intro _ _; rfl
    | cons x r ih =>
      intro f g
      simp only [PyData.canLayAll0, Bool.and_eq_true] at g
      simp only [PyData.hasDictAll, f x List.mem_cons_self g.1, ih (fun d m => f d (List.mem_cons_of_mem _ m)) g.2, Bool.or_self]
  match d, h with
  | .none, _ => rfl
  | .bool _, _ => rfl
  | .int _, _ => rfl
  | .str _, _ => rfl
  | .list ds, h => exact key ds (fun d m => noDict_of) (by simpa only [PyData.canLay0] using h)
  | .tuple ds, h => exact key ds (fun d m => noDict_of) (by simpa only [PyData.canLay0] using h)
  | .dict _, h => exact absurd h (by simp [PyData.canLay0])
theorem Dq.reads {pins : List (Addr × Obj)} {σ : L2.St} {H : Hp} {s : Shared} {v : V} {u : Value} {d : PyData} (I : Inv X pins σ H s) (q : Dq X.K H v d) (r : RelV v u) : ∃ as, Reads s.heap u d as ∧ (d.hasDict = true → sysModules ∉ as) := by
  cases q with
  | dat q sh =>
    obtain ⟨as, rd⟩ := Dp.reads I d v u q r
    exact ⟨as, rd, fun z => by rw [noDict_of (SeqAt.canLay_of_shaped sh)] at z; cases z⟩
  | dct h =>
    cases r
    obtain ⟨_, no, vs, kv, o, es, ep, ho, ex, hd, _, pr, _⟩ := I.hok _ _ h
    cases kv
    have es0 : es.toList = [] := by
      cases h : es.toList with
      | nil => rfl
      | cons x r =>
        rw [h] at pr
        cases pr
    refine ⟨_, Reads.dict (kvs := []) ho ex.1 hd (by rw [es0]; exact .nil) (by rw [es0]; exact .nil), fun _ => ?_⟩
    simpa using fun z => (beq_eq_false_iff_ne.mp no) z.symm
theorem Dr.reads {pins : List (Addr × Obj)} {σ : L2.St} {H : Hp} {s : Shared} {v : V} {u : Value} {d : PyData} (I : Inv X pins σ H s) (q : Dr X.K H v d) (r : RelV v u) : ∃ as, Reads s.heap u d as ∧ (d.hasDict = true → sysModules ∉ as) := by
  cases q with
  | q q => exact Dq.reads I q r
  | bad sq q =>
    cases r
    obtain ⟨its, rv, ⟨o, ho, hc, n, hd⟩, _⟩ := I.tuple sq
    cases rv with
    | cons r1 rv =>
      cases rv with
      | cons r2 rv =>
        cases rv
        obtain ⟨t, rfl⟩ := r1
        obtain ⟨as, rd, no⟩ := Dq.reads I q r2
        refine ⟨_, Reads.tuple ho hc hd (.cons (Reads.str _ t) (.cons rd .nil)), fun z => ?_⟩
        simp only [List.nil_append, List.append_nil]
        exact no (by simpa [PyData.hasDict, PyData.hasDictAll] using z)
def rReprQ (K : PySem.W.Frag) : List V → Hp → VK → Prop := fun xs H Q => ∃ (v : V) (d : PyData), xs = [v] ∧ Dr K H v d ∧ d.showable = true ∧ d.depth ≤ 10 ∧ d.shown.length ≤ sizeLine ∧ Q (.str d.shown) H
theorem call_reprQ (hG : X.A.guards = some []) (hu : X.A.units + 20 < cLine) : CallR X (.builtin "repr") (rReprQ X.K) := by
  rintro pins s σ H xs us Q I r ⟨v, d, rfl, q, h1, h3, h4, k⟩
  obtain ⟨u, rfl, rx⟩ := vals1 r
  obtain ⟨as, rd, no⟩ := Dr.reads I q rx
  have fin : ∀ (t : Tok) (tk : Nat), EP X pins σ Q (.str d.shown t) { s with toks := tk } := fun t tk => ⟨.str d.shown, H, I.tok _, ⟨_, rfl⟩, k⟩
  cases rd with
  | none => exact call_repr_gives (typeIs_none s) F.slot_NoneType_repr F.entry_NoneType_repr (F.args_NoneType_repr_1 _) gives_none_repr (fin _ _) (hx := h4)
  | bool b => exact call_repr_gives (PySem.typeIs_bool s b) F.slot_bool_repr F.entry_bool_repr (F.args_bool_repr_1 _) (gives_bool_repr b) (fin _ _) (hx := h4)
  | int i t => exact call_repr_gives (typeIs_int s i t) F.slot_int_repr F.entry_int_repr (F.args_int_repr_1 _) (gives_int_repr i t (by simpa [PyData.showable] using h1)) (fin _ _) (hx := h4)
  | str x t => exact call_repr_gives (typeIs_str s x t) F.slot_str_repr F.entry_str_repr (F.args_str_repr_1 _) (gives_str_repr x t) (fin _ _) (hx := h4)
  | list a b c e => exact PySem.repr_of_reads' (.list a b c e) h1 no hG (by omega) (fun _ _ e => e) (fun h' u tk hk => ⟨.str _, H, I.kept hk, ⟨_, rfl⟩, k⟩) h4
  | tuple a b c e => exact PySem.repr_of_reads' (.tuple a b c e) h1 no hG (by omega) (fun _ _ e => e) (fun h' u tk hk => ⟨.str _, H, I.kept hk, ⟨_, rfl⟩, k⟩) h4
  | dict a b c e f => exact PySem.repr_of_reads' (.dict a b c e f) h1 no hG (by omega) (fun _ _ e => e) (fun h' u tk hk => ⟨.str _, H, I.kept hk, ⟨_, rfl⟩, k⟩) h4
end
/-- small enough to be told -/
structure Sz (d : PyData) : Prop where
  sh : d.showable = true
  dp : d.depth ≤ 10
  ln : d.shown.length ≤ sizeLine
theorem boot_repr : bootBuiltins "repr" = some (.builtin "repr") := by decide +kernel
end Wp
set_option Elab.async false
set_option linter.all false
set_option maxRecDepth 100000
set_option maxHeartbeats 4000000
namespace Wp
open PySem L2 PySem.Spec PyProof.Rows
/-! ## repr of a short list of any values -/
inductive Dl (K : PySem.W.Frag) (H : Hp) : V → PyData → Prop
  | q {v : V} {d : PyData} : Dq K H v d → Dl K H v d
  | nil {a : Addr} : SqL K H a [] → Dl K H (.ref a) (.list [])
  | one {a : Addr} {v : V} {d : PyData} : SqL K H a [v] → Dq K H v d → Dl K H (.ref a) (.list [d])
  | two {a : Addr} {x : Str} {y : V} {z : PyData} : SqL K H a [.str x, y] → Dq K H y z → Dl K H (.ref a) (.list [.str x, z])
/-- the table of modules is a dict -/
def SysDict (K : PySem.W.Frag) : Prop := ∃ o es ep, K.lookup sysModules = some o ∧ o.data = .dict es ep
section
variable {X : Cx}
theorem not_sys {K : PySem.W.Frag} {h : Heap} {a : Addr} {o : Obj} {es : Array Value} {n : Nat} (S : SysDict K) (I : K.In h) (ho : h.get? a = some o) (hd : o.data = .seq es n) : sysModules ≠ a := fun e => by
  obtain ⟨o2, es2, ep, h1, h2⟩ := S
  have := I _ _ h1
  rw [e, ho] at this
  cases this
  rw [hd] at h2
  cases h2
theorem Dl.reads (S : SysDict X.K) {pins : List (Addr × Obj)} {σ : L2.St} {H : Hp} {s : Shared} {v : V} {u : Value} {d : PyData} (I : Inv X pins σ H s) (q : Dl X.K H v d) (r : RelV v u) : ∃ as, Reads s.heap u d as ∧ (d.hasDict = true → sysModules ∉ as) := by
  cases q with
  | q q => exact Dq.reads I q r
  | nil sq =>
    cases r
    obtain ⟨its, rv, ⟨o, n, ho, hc, _, hd⟩, _⟩ := I.list sq
    cases rv
    exact ⟨_, Reads.list ho hc hd .nil, fun z => by simp [PyData.hasDict, PyData.hasDictAll] at z⟩
  | one sq q =>
    cases r
    obtain ⟨its, rv, ⟨o, n, ho, hc, _, hd⟩, _⟩ := I.list sq
    cases rv with
    | cons r1 rv =>
      cases rv
      obtain ⟨as, rd, no⟩ := Dq.reads I q r1
      refine ⟨_, Reads.list ho hc hd (.cons rd .nil), fun z => ?_⟩
      simp only [List.nil_append, List.append_nil, List.mem_cons, not_or]
      exact ⟨not_sys S I.kIn ho hd, no (by simpa [PyData.hasDict, PyData.hasDictAll] using z)⟩
  | two sq q =>
    cases r
    obtain ⟨its, rv, ⟨o, n, ho, hc, _, hd⟩, _⟩ := I.list sq
    cases rv with
    | cons r1 rv =>
      cases rv with
      | cons r2 rv =>
        cases rv
        obtain ⟨t, rfl⟩ := r1
        obtain ⟨as, rd, no⟩ := Dq.reads I q r2
        refine ⟨_, Reads.list ho hc hd (.cons (Reads.str _ t) (.cons rd .nil)), fun z => ?_⟩
        simp only [List.nil_append, List.append_nil, List.mem_cons, not_or]
        exact ⟨not_sys S I.kIn ho hd, no (by simpa [PyData.hasDict, PyData.hasDictAll] using z)⟩
/-- repr of a short list of any values -/
def rReprL (K : PySem.W.Frag) : List V → Hp → VK → Prop := fun xs H Q => ∃ (v : V) (d : PyData), xs = [v] ∧ Dl K H v d ∧ d.showable = true ∧ d.depth ≤ 10 ∧ d.shown.length ≤ sizeLine ∧ Q (.str d.shown) H
theorem call_reprL (S : SysDict X.K) (hG : X.A.guards = some []) (hu : X.A.units + 20 < cLine) : CallR X (.builtin "repr") (rReprL X.K) := by
  rintro pins s σ H xs us Q I r ⟨v, d, rfl, q, h1, h3, h4, k⟩
  obtain ⟨u, rfl, rx⟩ := vals1 r
  obtain ⟨as, rd, no⟩ := Dl.reads S I q rx
  have fin : ∀ (t : Tok) (tk : Nat), EP X pins σ Q (.str d.shown t) { s with toks := tk } := fun t tk => ⟨.str d.shown, H, I.tok _, ⟨_, rfl⟩, k⟩
  cases rd with
  | none => exact call_repr_gives (typeIs_none s) F.slot_NoneType_repr F.entry_NoneType_repr (F.args_NoneType_repr_1 _) gives_none_repr (fin _ _) (hx := h4)
  | bool b => exact call_repr_gives (PySem.typeIs_bool s b) F.slot_bool_repr F.entry_bool_repr (F.args_bool_repr_1 _) (gives_bool_repr b) (fin _ _) (hx := h4)
  | int i t => exact call_repr_gives (typeIs_int s i t) F.slot_int_repr F.entry_int_repr (F.args_int_repr_1 _) (gives_int_repr i t (by simpa [PyData.showable] using h1)) (fin _ _) (hx := h4)
  | str x t => exact call_repr_gives (typeIs_str s x t) F.slot_str_repr F.entry_str_repr (F.args_str_repr_1 _) (gives_str_repr x t) (fin _ _) (hx := h4)
  | list a b c e => exact PySem.repr_of_reads' (.list a b c e) h1 no hG (by omega) (fun _ _ e => e) (fun h' u tk hk => ⟨.str _, H, I.kept hk, ⟨_, rfl⟩, k⟩) h4
  | tuple a b c e => exact PySem.repr_of_reads' (.tuple a b c e) h1 no hG (by omega) (fun _ _ e => e) (fun h' u tk hk => ⟨.str _, H, I.kept hk, ⟨_, rfl⟩, k⟩) h4
  | dict a b c e f => exact PySem.repr_of_reads' (.dict a b c e f) h1 no hG (by omega) (fun _ _ e => e) (fun h' u tk hk => ⟨.str _, H, I.kept hk, ⟨_, rfl⟩, k⟩) h4
end
end Wp
set_option Elab.async false
set_option linter.all false
set_option maxRecDepth 100000
set_option maxHeartbeats 4000000
namespace Wh
open PySem PySem.Spec PyProof.Rows L2
open Wp hiding Same.refl Same.trans same_new boot_all run_own
open W8 (Ev Rp Kp Mono same_new take_snoc rW rB mW mB ev_words ev_words_eq ev_bools_eq lc_sieve)
/-! ## a field asked by any name -/
section
variable {P : Program} {w : World} {K : PySem.W.Frag} {mg : Str → Option Value} {base : Heap} {CF CK CH CU CV CB : Addr}
theorem fieldNamed_app {gs hs : List FV} {z : PyData} (h : fieldNamed gs z = none) : fieldNamed (gs ++ hs) z = fieldNamed hs z := by
  cases z with
  | str n =>
    simp only [fieldNamed] at h ⊢
    rw [List.find?_append, h]
    rfl
  | _ => rfl
theorem fieldNamed_one {g : FV} {z : PyData} : fieldNamed [g] z = if Wp.isTxt z g.n = true then some g else none := by
  cases z with
  | str n =>
    simp only [fieldNamed, Wp.isTxt, List.find?, decide_eq_true_eq]
    by_cases e : g.n = n
    · rw [if_pos e.symm, decide_eq_true e]
    · rw [if_neg (fun q => e q.symm), decide_eq_false e]
  | _ => rfl
def spFd3 (K : PySem.W.Frag) (CF CK CH CU CV : Addr) : Sp := fun vs H Q E => ∃ (s : Addr) (v y : V) (d z : PyData) (root : Str) (ks : List KD), vs = [.ref s, v, y] ∧ HouseAt K CF CK CH H s root ks ∧ Dq K H v d ∧ Dq K H y z ∧ (∀ x ∈ ks, ∀ g ∈ allF ks x, PyData.strOk g.n = true) ∧
  (inHouse ks d = false → ∀ (H' : Hp) (e : Addr), Same H H' → H e = none → H' e = some (.xd [("name", v)]) → E (.ref CU) (some e) H') ∧
  ∀ x ∈ ks, d = .str x.n → ((∀ g, fieldNamed (allF ks x) z = some g → ∀ u, rF K CF H u g → Q u H) ∧ (fieldNamed (allF ks x) z = none → ∀ (H' : Hp) (e : Addr), Same H H' → H e = none → H' e = some (.xd [("name", y), ("kind", v)]) → E (.ref CV) (some e) H'))
theorem ok_fd3 {f f1 CU CV fV : Addr} {fd fd1 fdV : FuncData} (F : Fun K "field_of" "House.field_of" sFd f fd) (HC : PlainC K CH houseAt) (CFc : PlainC K CF ["name", "mode", "target", "default", "was"]) (CK0 : KMt P w K mg base CH (L2N.CX P w) 3 "_check" nCk (spCk K CF CK CH CU) f1 fd1)
    (M : Mk2 P w K mg base "UnknownField" "kind" "name" CV fV fdV) : FnOk P w K mg base (L2N.CX P w) 4 f fd ["self", "kind", "name"] (spFd3 K CF CK CH CU CV) := by
  refine fun_okC F scFd (fun vs H Q E h => ?_) (fun cdv A outer s0 H vs Q E hr h => ?_)
  · obtain ⟨s, v, y, d, z, root, ks, rfl, _⟩ := h
    rfl
  · obtain ⟨s, v, y, d, z, root, ks, rfl, ha, q, qz, gok, k1, k2⟩ := h
    have hu := hu_of hr
    refine ⟨_, 
      (pss_cons (ps_expr (pe_meth (pv 0) HC.cl CK0.mt CK0.ok (hr.mono (by decide)) CK0.bi .nil (L2N.passes_call (L2N.takes_of rfl rfl rfl rfl) (fun _ _ _ _ h => h)) (pa_cons (pv 1) pa_nil)))
      (pss_cons (ps_for PassesOwn.leaving rfl (pi_tup (pe_dget hu (pe_fld (pv 0) rfl) (pv 1) (fun _ _ => rfl))) (pg_name (i := 3) scFd.nd rfl (Or.inl rfl)) 
        (pss_one (ps_if (pt_cmpR (op_txtEq hr.units) (pe_fld (pv 3) rfl) (pv 2) (nomark _)) 
          (pss_one (ps_ret (pv 3))) pss_nil)))
      (pss_one (L2N.ps_raise rfl (L2N.takes_of rfl rfl rfl rfl) (pmk_oexN M.T M.iC M.tI M.FI (hr.mono (by decide)) M.bI pass0 (by rfl) M.gC (pa_cons (pv 1) (pa_cons (pv 2) pa_nil))))))), ?_⟩
    obtain ⟨dx, tn, tk, dd, df, dl, dr, hs, _, _, _, hf, _⟩ := ha.ex
    refine ⟨_, rfl, s, dx, _, rfl, hs, rfl, _, rfl, s, v, d, root, ks, rfl, ha, q, fun e => ?_, fun e => k1 e⟩
    obtain ⟨x, mx, rfl⟩ := (house_cases ks d).resolve_right (by rw [e]; exact Bool.noConfusion)
    cases q.str_of
    obtain ⟨p1, p2⟩ := k2 x mx rfl
    obtain ⟨t, us, g, hus, evu⟩ := get_allF hf ha.ok.nd mx
    refine ⟨_, rfl, s, CH, dx, _, _, rfl, hs, HC.cl, HC.no _ (by simp), (lk_h _ _ _ _ _ _ _).2.2.2.2.1, _, rfl, df, _, rfl, g, t, rfl, ⟨us, hus⟩, ?_⟩
    refine for_it (walk_tup (xs := us)) (fun j σ H' => H' = H ∧ ∃ v3, σ = [some (.ref s), some (.str x.n), some y, v3] ∧ fieldNamed ((allF ks x).take j) z = none) ⟨rfl, none, rfl, by cases z <;> rfl⟩ (fun i σ H' _ ⟨e, _⟩ => e ▸ hus) ?_ ?_
    · rintro j u σ _ _ hj ⟨rfl, v3, rfl, no⟩ ⟨rfl, hv⟩
      obtain ⟨g0, hg0, r⟩ := evu.at hv
      obtain ⟨b, rfl, ⟨dy, tw, hb, _⟩, _⟩ := id r
      have tk : (allF ks x).take (j + 1) = (allF ks x).take j ++ [g0] := take_snoc hg0
      refine ⟨_, rfl, b, CF, dy, _, _, rfl, hb, CFc.cl, CFc.no _ (by simp), (lk_fs _ _ _ _ _).2.2.2.2, _, rfl, z, g0.n, rfl, shaped_str (gok x mx g0 (List.mem_of_getElem? hg0)), qz, _, rfl, ?_⟩
      cases e8 : Wp.isTxt z g0.n with
      | false =>
        refine iteF ⟨rfl, _, rfl, ?_⟩
        rw [tk, fieldNamed_app no, fieldNamed_one, e8]
        rfl
      | true =>
        refine iteT ⟨_, rfl, p1 g0 ?_ _ r⟩
        have whole : allF ks x = (allF ks x).take j ++ ([g0] ++ (allF ks x).drop (j + 1)) := by
          rw [← List.append_assoc, ← tk, List.take_append_drop]
        rw [whole, fieldNamed_app no]
        cases z with
        | str n =>
          have e9 : n = g0.n := of_decide_eq_true e8
          simp only [fieldNamed, List.singleton_append]
          rw [List.find?_cons_of_pos (by simp [e9])]
        | _ => cases e8
    · rintro σ _ ⟨rfl, v3, rfl, no⟩
      rw [evu.1, List.take_length] at no
      exact ⟨_, rfl, _, rfl, rs2 (Q := E) fun d0 nd => p2 no _ d0 (same_new nd) nd upd_same⟩
/-! ## fifteen ways to ask of what is no kind -/
abbrev sLc : Stmt := top 61
abbrev nLc : List Str := ["_law_house", "_law_way", "_law_thing"]
def spLc (K : PySem.W.Frag) (CF CK CH CU : Addr) : Sp := fun vs H Q E => ∃ (s : Addr) (i : Int) (v : V) (d : PyData) (root : Str) (ks : List KD), vs = [.ref s, .int i, v] ∧ HouseAt K CF CK CH H s root ks ∧ (∀ x ∈ ks, ∀ g ∈ allF ks x, PyData.strOk g.n = true) ∧ Dq K H v d ∧ inHouse ks d = false ∧
  ∀ (H' : Hp) (e : Addr), Same H H' → H e = none → H' e = some (.xd [("name", v)]) → E (.ref CU) (some e) H'
theorem scLc : FnScope nLc ["_law_house", "_law_way", "_law_thing"] (defScope sLc) := ⟨rfl, rfl, rfl, by decide +kernel, rfl, by decide +kernel, by decide +kernel⟩
theorem not_kind {ans : List KD → KD → Hp → VK → Prop} {H : Hp} {s : Addr} {root : Str} {ks : List KD} {v : V} {d : PyData} {Q : VK} {E : XK} (ha : HouseAt K CF CK CH H s root ks) (q : Dq K H v d) (bad : inHouse ks d = false)
    (k : ∀ (H' : Hp) (e : Addr), Same H H' → H e = none → H' e = some (.xd [("name", v)]) → E (.ref CU) (some e) H') : spM K CF CK CH CU ans [.ref s, v] H Q E :=
  ⟨s, v, d, root, ks, rfl, ha, q, fun x mx e => (by rw [e, in_house mx] at bad; cases bad), fun _ => k⟩
theorem ok_Lc {f f1 f2 f3 f4 f5 f6 f7 f8 f9 f10 f11 f12 f13 f14 f15 : Addr} {fd fd1 fd2 fd3 fd4 fd5 fd6 fd7 fd8 fd9 fd10 fd11 fd12 fd13 fd14 fd15 : FuncData} (F : Fun K "_law_call" "_law_call" sLc f fd) (HC : PlainC K CH houseAt)
    (KD_ : KMt P w K mg base CH (L2N.CX P w) 4 "kind_named" nKd (spM K CF CK CH CU (aKd K CF CK)) f1 fd1) (FO : KMt P w K mg base CH (L2N.CX P w) 4 "fields_of" nFo (spM K CF CK CH CU (aFo K CF)) f2 fd2) (FD : KMt P w K mg base CH (L2N.CX P w) 4 "field_of" ["self", "kind", "name"] (spFd3 K CF CK CH CU CV) f3 fd3)
    (MO : KMt P w K mg base CH (L2N.CX P w) 5 "marks_of" ["self", "kind"] (spM K CF CK CH CU (aWs marksK)) f4 fd4) (SO : KMt P w K mg base CH (L2N.CX P w) 5 "slots_of" ["self", "kind"] (spM K CF CK CH CU (aWs slotsK)) f5 fd5) (LH : KMt P w K mg base CH (L2N.CX P w) 5 "lets_heirs" nKd (spM K CF CK CH CU (aV fun x => .bl x.h)) f6 fd6)
    (IZ : KMt P w K mg base CH (L2N.CX P w) 5 "is_frozen" nKd (spM K CF CK CH CU (aV fun x => .bl x.f)) f7 fd7) (IR : KMt P w K mg base CH (L2N.CX P w) 5 "is_registered" nKd (spM K CF CK CH CU (aV fun x => .bl x.r)) f8 fd8) (IL : KMt P w K mg base CH (L2N.CX P w) 6 "is_leaf" ["self", "kind"] (spM K CF CK CH CU (aB fun ks x => (slotsK ks x).isEmpty)) f9 fd9)
    (IM : KMt P w K mg base CH (L2N.CX P w) 6 "is_movable" ["self", "kind"] (spM K CF CK CH CU (aB movK)) f10 fd10) (KO : KMt P w K mg base CH (L2N.CX P w) 5 "key_of" nKd (spM K CF CK CH CU (aV fun x => tv x.k)) f11 fd11) (HO_ : KMt P w K mg base CH (L2N.CX P w) 4 "heirs_of" ["self", "kind"] (spM K CF CK CH CU (aWs heirsK)) f12 fd12)
    (LS : KMt P w K mg base CH (L2N.CX P w) 4 "leads" ["self", "kind"] (spM K CF CK CH CU (aWs fun ks x => leadOf ks x.n)) f13 fd13) (LF : KMt P w K mg base CH (L2N.CX P w) 4 "leads_far" ["self", "kind"] (spM K CF CK CH CU (aWs fun ks x => farK ks x.n)) f14 fd14) (AS_ : KMt P w K mg base CH (L2N.CX P w) 4 "admits" ["self", "target", "kind"] (spAs K CF CK CH CU) f15 fd15) :
    FnOk P w K mg base (L2N.CX P w) 7 f fd ["_law_house", "_law_way", "_law_thing"] (spLc K CF CK CH CU) := by
  refine fun_okC F scLc (fun vs H Q E h => ?_) (fun cdv A outer s0 H vs Q E hr h => ?_)
  · obtain ⟨s, i, v, d, root, ks, rfl, _⟩ := h
    rfl
  · obtain ⟨s, i, v, d, root, ks, rfl, ha, gok, q, bad, k⟩ := h
    have hu := hu_of hr
    refine ⟨_, 
      (pss_cons (ps_if (pt_cmpR op_eq (pv 1) pe_int (nomark _)) 
        (pss_one (ps_ret (pe_meth (pv 0) HC.cl KD_.mt KD_.ok (hr.mono (by decide)) KD_.bi .nil (L2N.passes_call (L2N.takes_of rfl rfl rfl rfl) (fun _ _ _ _ h => h)) (pa_cons (pv 2) pa_nil)))) pss_nil)
      (pss_cons (ps_if (pt_cmpR op_eq (pv 1) pe_int (nomark _)) 
        (pss_one (ps_ret (pe_meth (pv 0) HC.cl FO.mt FO.ok (hr.mono (by decide)) FO.bi .nil (L2N.passes_call (L2N.takes_of rfl rfl rfl rfl) (fun _ _ _ _ h => h)) (pa_cons (pv 2) pa_nil)))) pss_nil)
      (pss_cons (ps_if (pt_cmpR op_eq (pv 1) pe_int (nomark _)) 
        (pss_one (ps_ret (pe_meth (pv 0) HC.cl FD.mt FD.ok (hr.mono (by decide)) FD.bi .nil (L2N.passes_call (L2N.takes_of rfl rfl rfl rfl) (fun _ _ _ _ h => h)) (pa_cons (pv 2) (pa_cons pe_str pa_nil))))) pss_nil)
      (pss_cons (ps_if (pt_cmpR op_eq (pv 1) pe_int (nomark _)) 
        (pss_one (ps_ret (pe_meth (pv 0) HC.cl MO.mt MO.ok (hr.mono (by decide)) MO.bi .nil (L2N.passes_call (L2N.takes_of rfl rfl rfl rfl) (fun _ _ _ _ h => h)) (pa_cons (pv 2) pa_nil)))) pss_nil)
      (pss_cons (ps_if (pt_cmpR op_eq (pv 1) pe_int (nomark _)) 
        (pss_one (ps_ret (pe_meth (pv 0) HC.cl SO.mt SO.ok (hr.mono (by decide)) SO.bi .nil (L2N.passes_call (L2N.takes_of rfl rfl rfl rfl) (fun _ _ _ _ h => h)) (pa_cons (pv 2) pa_nil)))) pss_nil)
      (pss_cons (ps_if (pt_cmpR op_eq (pv 1) pe_int (nomark _)) 
        (pss_one (ps_ret (pe_meth (pv 0) HC.cl LH.mt LH.ok (hr.mono (by decide)) LH.bi .nil (L2N.passes_call (L2N.takes_of rfl rfl rfl rfl) (fun _ _ _ _ h => h)) (pa_cons (pv 2) pa_nil)))) pss_nil)
      (pss_cons (ps_if (pt_cmpR op_eq (pv 1) pe_int (nomark _)) 
        (pss_one (ps_ret (pe_meth (pv 0) HC.cl IZ.mt IZ.ok (hr.mono (by decide)) IZ.bi .nil (L2N.passes_call (L2N.takes_of rfl rfl rfl rfl) (fun _ _ _ _ h => h)) (pa_cons (pv 2) pa_nil)))) pss_nil)
      (pss_cons (ps_if (pt_cmpR op_eq (pv 1) pe_int (nomark _)) 
        (pss_one (ps_ret (pe_meth (pv 0) HC.cl IR.mt IR.ok (hr.mono (by decide)) IR.bi .nil (L2N.passes_call (L2N.takes_of rfl rfl rfl rfl) (fun _ _ _ _ h => h)) (pa_cons (pv 2) pa_nil)))) pss_nil)
      (pss_cons (ps_if (pt_cmpR op_eq (pv 1) pe_int (nomark _)) 
        (pss_one (ps_ret (pe_meth (pv 0) HC.cl IL.mt IL.ok (hr.mono (by decide)) IL.bi .nil (L2N.passes_call (L2N.takes_of rfl rfl rfl rfl) (fun _ _ _ _ h => h)) (pa_cons (pv 2) pa_nil)))) pss_nil)
      (pss_cons (ps_if (pt_cmpR op_eq (pv 1) pe_int (nomark _)) 
        (pss_one (ps_ret (pe_meth (pv 0) HC.cl IM.mt IM.ok (hr.mono (by decide)) IM.bi .nil (L2N.passes_call (L2N.takes_of rfl rfl rfl rfl) (fun _ _ _ _ h => h)) (pa_cons (pv 2) pa_nil)))) pss_nil)
      (pss_cons (ps_if (pt_cmpR op_eq (pv 1) pe_int (nomark _)) 
        (pss_one (ps_ret (pe_meth (pv 0) HC.cl KO.mt KO.ok (hr.mono (by decide)) KO.bi .nil (L2N.passes_call (L2N.takes_of rfl rfl rfl rfl) (fun _ _ _ _ h => h)) (pa_cons (pv 2) pa_nil)))) pss_nil)
      (pss_cons (ps_if (pt_cmpR op_eq (pv 1) pe_int (nomark _)) 
        (pss_one (ps_ret (pe_meth (pv 0) HC.cl HO_.mt HO_.ok (hr.mono (by decide)) HO_.bi .nil (L2N.passes_call (L2N.takes_of rfl rfl rfl rfl) (fun _ _ _ _ h => h)) (pa_cons (pv 2) pa_nil)))) pss_nil)
      (pss_cons (ps_if (pt_cmpR op_eq (pv 1) pe_int (nomark _)) 
        (pss_one (ps_ret (pe_meth (pv 0) HC.cl LS.mt LS.ok (hr.mono (by decide)) LS.bi .nil (L2N.passes_call (L2N.takes_of rfl rfl rfl rfl) (fun _ _ _ _ h => h)) (pa_cons (pv 2) pa_nil)))) pss_nil)
      (pss_cons (ps_if (pt_cmpR op_eq (pv 1) pe_int (nomark _)) 
        (pss_one (ps_ret (pe_meth (pv 0) HC.cl LF.mt LF.ok (hr.mono (by decide)) LF.bi .nil (L2N.passes_call (L2N.takes_of rfl rfl rfl rfl) (fun _ _ _ _ h => h)) (pa_cons (pv 2) pa_nil)))) pss_nil)
      (pss_one (ps_ret (pe_meth (pv 0) HC.cl AS_.mt AS_.ok (hr.mono (by decide)) AS_.bi .nil (L2N.passes_call (L2N.takes_of rfl rfl rfl rfl) (fun _ _ _ _ h => h)) (pa_cons pe_str (pa_cons (pv 2) pa_nil))))))))))))))))))), ?_⟩
    obtain ⟨dx, _, _, _, _, _, _, hs, _⟩ := id ha.ex
    refine ⟨_, rfl, rfl, _, rfl, ite2 (fun _ => ⟨_, rfl, s, dx, _, rfl, hs, rfl, _, rfl, not_kind ha q bad k⟩) fun _ => ?_⟩
    refine ⟨_, rfl, rfl, _, rfl, ite2 (fun _ => ⟨_, rfl, s, dx, _, rfl, hs, rfl, _, rfl, not_kind ha q bad k⟩) fun _ => ?_⟩
    refine ⟨_, rfl, rfl, _, rfl, ite2 (fun _ => ⟨_, rfl, s, dx, _, rfl, hs, rfl, _, rfl, s, v, .str "a", d, .str "a", root, ks, rfl, ha, q, .dat (.str _) (by decide +kernel), gok, fun _ => k, fun x mx e => (by rw [e, in_house mx] at bad; cases bad)⟩) fun _ => ?_⟩
    refine ⟨_, rfl, rfl, _, rfl, ite2 (fun _ => ⟨_, rfl, s, dx, _, rfl, hs, rfl, _, rfl, not_kind ha q bad k⟩) fun _ => ?_⟩
    refine ⟨_, rfl, rfl, _, rfl, ite2 (fun _ => ⟨_, rfl, s, dx, _, rfl, hs, rfl, _, rfl, not_kind ha q bad k⟩) fun _ => ?_⟩
    refine ⟨_, rfl, rfl, _, rfl, ite2 (fun _ => ⟨_, rfl, s, dx, _, rfl, hs, rfl, _, rfl, not_kind ha q bad k⟩) fun _ => ?_⟩
    refine ⟨_, rfl, rfl, _, rfl, ite2 (fun _ => ⟨_, rfl, s, dx, _, rfl, hs, rfl, _, rfl, not_kind ha q bad k⟩) fun _ => ?_⟩
    refine ⟨_, rfl, rfl, _, rfl, ite2 (fun _ => ⟨_, rfl, s, dx, _, rfl, hs, rfl, _, rfl, not_kind ha q bad k⟩) fun _ => ?_⟩
    refine ⟨_, rfl, rfl, _, rfl, ite2 (fun _ => ⟨_, rfl, s, dx, _, rfl, hs, rfl, _, rfl, not_kind ha q bad k⟩) fun _ => ?_⟩
    refine ⟨_, rfl, rfl, _, rfl, ite2 (fun _ => ⟨_, rfl, s, dx, _, rfl, hs, rfl, _, rfl, not_kind ha q bad k⟩) fun _ => ?_⟩
    refine ⟨_, rfl, rfl, _, rfl, ite2 (fun _ => ⟨_, rfl, s, dx, _, rfl, hs, rfl, _, rfl, not_kind ha q bad k⟩) fun _ => ?_⟩
    refine ⟨_, rfl, rfl, _, rfl, ite2 (fun _ => ⟨_, rfl, s, dx, _, rfl, hs, rfl, _, rfl, not_kind ha q bad k⟩) fun _ => ?_⟩
    refine ⟨_, rfl, rfl, _, rfl, ite2 (fun _ => ⟨_, rfl, s, dx, _, rfl, hs, rfl, _, rfl, not_kind ha q bad k⟩) fun _ => ?_⟩
    refine ⟨_, rfl, rfl, _, rfl, ite2 (fun _ => ⟨_, rfl, s, dx, _, rfl, hs, rfl, _, rfl, not_kind ha q bad k⟩) fun _ => ?_⟩
    exact ⟨_, rfl, s, dx, _, rfl, hs, rfl, _, rfl, s, .str "any", v, .str "any", d, root, ks, rfl, ha, .dat (.str _) (by decide +kernel), q, fun t x et _ mx ez => (by rw [ez, in_house mx] at bad; cases bad), fun t et _ _ => k, fun ne => absurd rfl ne⟩
end
end Wh
set_option Elab.async false
set_option linter.all false
set_option maxRecDepth 100000
set_option maxHeartbeats 4000000
namespace Wh
open PySem PySem.Spec PyProof.Rows L2
open Wp hiding Same.refl Same.trans same_new boot_all run_own
open W8 (Ev Rp Kp Mono same_new take_snoc rW rB mW mB ev_words ev_words_eq ev_bools_eq lc_sieve)
/-! ## the flags of a kind -/
def fvD (g : FV) : PyData := .tuple [.str g.n, .str g.m, tvD g.t, .int g.d, .tuple (g.w.map .str)]
def kdD (x : KD) : PyData := .list [.str x.n, tvD x.b, .bool x.f, .bool x.h, tvD x.k, .bool x.r, .list (x.fs.map fvD)]
theorem tvD_lay {o : Option Str} (h : ∀ t, o = some t → PyData.strOk t = true) : (tvD o).canLay0 = true ∧ (tvD o).depth ≤ 1 := by
  cases o with
  | none => exact ⟨rfl, by simp [tvD, PyData.depth]⟩
  | some t => exact ⟨h t rfl, by simp [tvD, PyData.depth]⟩
theorem fvD_lay {g : FV} (h : FldOk g) : (fvD g).canLay0 = true ∧ (fvD g).depth ≤ 3 := by
  have gg := h.right.good
  have l1 : PyData.strOk g.n = true := (Bool.and_eq_true_iff.mp gg.n).1
  have l2 : PyData.strOk g.m = true := (Bool.and_eq_true_iff.mp gg.m).1
  have l3 : (tvD g.t).canLay0 = true := (Bool.and_eq_true_iff.mp gg.t).1
  have l4 : PyData.canLayAll0 (g.w.map .str) = true := (Bool.and_eq_true_iff.mp gg.w).1
  have d4 := depth_strs g.w
  have d3 : (tvD g.t).depth ≤ 1 := by cases g.t <;> simp [tvD, PyData.depth]
  unfold fvD
  refine ⟨?_, ?_⟩
  · simp only [PyData.canLay0, PyData.canLayAll0, l1, l2, l3, l4]
    rfl
  · simp only [PyData.depth, PyData.depthAll]
    omega
theorem fvDs_lay : ∀ gs : List FV, (∀ g ∈ gs, FldOk g) → PyData.canLayAll0 (gs.map fvD) = true ∧ PyData.depthAll (gs.map fvD) ≤ 3
  | [], _ => by simp [PyData.canLayAll0, PyData.depthAll]
  | g :: gs, h => by
    obtain ⟨h1, h2⟩ := fvDs_lay gs fun w m => h w (List.mem_cons_of_mem _ m)
    obtain ⟨w1, w2⟩ := fvD_lay (h g List.mem_cons_self)
    refine ⟨?_, ?_⟩
    · simp only [List.map_cons, PyData.canLayAll0, w1, h1, Bool.and_self]
    · simp only [List.map_cons, PyData.depthAll]
      omega
theorem kdD_shaped {x : KD} (h : RowV x) : SeqAt.shaped (kdD x) = true := by
  have gk := h.good
  have l1 : PyData.strOk x.n = true := (Bool.and_eq_true_iff.mp gk.n).1
  have l2 : (tvD x.b).canLay0 = true := (Bool.and_eq_true_iff.mp gk.b).1
  have l3 : (tvD x.k).canLay0 = true := (Bool.and_eq_true_iff.mp gk.k).1
  have d2 : (tvD x.b).depth ≤ 1 := by cases x.b <;> simp [tvD, PyData.depth]
  have d3 : (tvD x.k).depth ≤ 1 := by cases x.k <;> simp [tvD, PyData.depth]
  obtain ⟨f1, f2⟩ := fvDs_lay x.fs h.fs
  unfold kdD
  refine Bool.and_eq_true_iff.mpr ⟨?_, decide_eq_true ?_⟩
  · simp only [PyData.canLay0, PyData.canLayAll0, l1, l2, l3, f1]
    rfl
  · simp only [PyData.depth, PyData.depthAll]
    omega
theorem dp_tv {K : PySem.W.Frag} {H : Hp} : ∀ o : Option Str, Dp K H (tv o) (tvD o)
  | none => .non
  | some t => .str t
theorem dp_fields {K : PySem.W.Frag} {H : Hp} : ∀ {us : List V} {gs : List FV}, Ev (rLF K) H us gs → DpAll K H us (gs.map fvD)
  | [], [], _ => .nil
  | [], _ :: _, e => by cases e.1
  | _ :: _, [], e => by cases e.1
  | u :: us, g :: gs, e => by
    obtain ⟨t, wt, rfl, h1, h2⟩ := e.2 0 u g rfl rfl
    exact .cons (.tup h1 (.cons (.str _) (.cons (.str _) (.cons (dp_tv _) (.cons (.int _) (.cons (.tup h2 (dpAll_strs _)) .nil)))))) (dp_fields ⟨by have := e.1; simpa using this, fun i x c a b => e.2 (i + 1) x c (by simpa using a) (by simpa using b)⟩)
section
variable {P : Program} {w : World} {K : PySem.W.Frag} {mg : Str → Option Value} {base : Heap} {CF CK CH CU CV CB : Addr}
theorem iteSame {a : Bool} {p q : Prop} (h : q) : if (!decide (a = a)) = true then p else q := by
  rw [decide_eq_true rfl]
  exact h
abbrev sLg : Stmt := top 59
abbrev nLg : List Str := ["_law_house", "_law_rows", "_law_name", "_law_row_here", "_law_fields", "_law_leaf", "_law_movable", "_law_kind", "_law_own", "_law_told", "_law_field_here"]
theorem scLg : FnScope nLg ["_law_house", "_law_rows", "_law_name"] (defScope sLg) := ⟨rfl, rfl, rfl, by decide +kernel, rfl, by decide +kernel, by decide +kernel⟩
theorem ok_Lg {f f1 f2 f3 f6 f7 f8 f9 f10 f11 f12 : Addr} {fd fd1 fd2 fd3 fd6 fd7 fd8 fd9 fd10 fd11 fd12 : FuncData} (F : Fun K "_law_flags" "_law_flags" sLg f fd) (B : Bn mg) (HC : PlainC K CH houseAt) (C : PlainC K CK ["name", "fields", "base", "frozen", "heirs", "key", "registered"]) (CFc : PlainC K CF ["name", "mode", "target", "default", "was"])
    (AF : Known P w K mg base CX0 3 "_law_all_fields" ["_law_rows", "_law_name"] (spAf K true) f1 fd1) (RW_ : Known P w K mg base CX0 1 "_law_row" ["_law_rows", "_law_name"] (spRw K) f2 fd2) (TR : Known P w K mg base CX0 1 "_law_truth" ["_law_told", "_law_due"] (spTr K) f3 fd3)
    (KD_ : KMt P w K mg base CH (L2N.CX P w) 4 "kind_named" nKd (spM K CF CK CH CU (aKd K CF CK)) f6 fd6) (LH : KMt P w K mg base CH (L2N.CX P w) 5 "lets_heirs" nKd (spM K CF CK CH CU (aV fun x => .bl x.h)) f7 fd7)
    (IZ : KMt P w K mg base CH (L2N.CX P w) 5 "is_frozen" nKd (spM K CF CK CH CU (aV fun x => .bl x.f)) f8 fd8) (IR : KMt P w K mg base CH (L2N.CX P w) 5 "is_registered" nKd (spM K CF CK CH CU (aV fun x => .bl x.r)) f9 fd9) (IL : KMt P w K mg base CH (L2N.CX P w) 6 "is_leaf" ["self", "kind"] (spM K CF CK CH CU (aB fun ks x => (slotsK ks x).isEmpty)) f10 fd10)
    (IM : KMt P w K mg base CH (L2N.CX P w) 6 "is_movable" ["self", "kind"] (spM K CF CK CH CU (aB movK)) f11 fd11) (KO : KMt P w K mg base CH (L2N.CX P w) 5 "key_of" nKd (spM K CF CK CH CU (aV fun x => tv x.k)) f12 fd12) :
    FnOk P w K mg base CX0 7 f fd ["_law_house", "_law_rows", "_law_name"] (spLl K CF CK CH) := by
  refine F.ok scLg (fun vs H Q E h => ?_) (fun cdv A outer s0 H vs Q E hr h => ?_)
  · obtain ⟨s, l, root, rs, x, rfl, _⟩ := h
    rfl
  · obtain ⟨s, l, root, rs, x, rfl, ha, R, rv, mx, k⟩ := h
    have hu := hu_of hr
    have ok := ha.ok
    have ro := ok.rowsOk rv
    have ox : PyData.strOk x.n = true := (Bool.and_eq_true_iff.mp (rv x mx).good.n).1
    have few := ok.few mx
    have n12 := ok.n12
    have atx := atName_of ro.nd mx
    obtain ⟨hx, _, _, _, _, _, _, hs, _⟩ := id ha.ex
    refine ⟨_, 
      (pss_cons (ps_set (i := 3) scLg.nd rfl (.inr rfl) (pe_call RW_.ok (hr.mono (by decide)) rfl RW_.mg RW_.kp RW_.bi .nil pass0 (pa_cons (pv 1) (pa_cons (pv 2) pa_nil))))
      (pss_cons (ps_set (i := 4) scLg.nd rfl (.inl rfl) (pe_call AF.ok (hr.mono (by decide)) rfl AF.mg AF.kp AF.bi .nil pass0 (pa_cons (pv 1) (pa_cons (pv 2) pa_nil))))
      (pss_cut (ps_set (i := 5) scLg.nd rfl (.inl rfl) (pe_cmpR op_eq (pe_callB call_len_seq (by rfl) B.len PySem.boot_len (pa_cons (pe_lc (own := [("_law_field_here", 10)]) (g := gName 10) (te := (tVar 10)) (tt := (tTest (tOp rNe (tOp (rIxT K) (tVar 10) (tC (.int 1))) (tC (.str "mark"))))) rfl scLg.nd (pi_list (pv 4)) (blkOk_by (N := nLg) (sc := defScope sLg) (by decide +kernel)) (fun _ _ _ _ _ => pg_name (i := 10) scLg.nd rfl (Or.inl rfl)) (fun _ _ _ _ _ => pts_one (pt_cmpR op_ne (pe_ix ix_tup (pv 10) pe_int (fun _ _ => rfl)) pe_str (nomark _))) (fun _ _ _ _ _ => (pv 10))) pa_nil)) pe_int (nomark _)))
      (pss_cut (ps_set (i := 6) scLg.nd rfl (.inl rfl) (pe_and (pe_not (pe_dget hu (pv 3) pe_str (fun _ _ => rfl))) (pe_one (pe_cmpR op_gt (pe_callB call_len_seq (by rfl) B.len PySem.boot_len (pa_cons (pe_lc (own := [("_law_field_here", 10)]) (g := gName 10) (te := (tVar 10)) (tt := (tTest (tOp rNe (tOp (rIxT K) (tVar 10) (tC (.int 0))) (tDGet (tVar 3) (tC (.str "key")))))) rfl scLg.nd (pi_list (pv 4)) (blkOk_by (N := nLg) (sc := defScope sLg) (by decide +kernel)) (fun _ _ _ _ _ => pg_name (i := 10) scLg.nd rfl (Or.inl rfl)) (fun _ _ _ _ _ => pts_one (pt_cmpR op_ne (pe_ix ix_tup (pv 10) pe_int (fun _ _ => rfl)) (pe_dget hu (pv 3) pe_str (fun _ _ => rfl)) (nomark _))) (fun _ _ _ _ _ => (pv 10))) pa_nil)) pe_int (nomark _)))))
      (pss_cons (ps_if (PW.pt (pw_or (pt_not (pt_val (pe_call TR.ok (hr.mono (by decide)) rfl TR.mg TR.kp TR.bi .nil pass0 (pa_cons (pe_meth (pv 0) HC.cl LH.mt LH.ok (hr.mono (by decide)) LH.bi .nil passLN (pa_cons (pv 2) pa_nil)) (pa_cons (pe_dget hu (pv 3) pe_str (fun _ _ => rfl)) pa_nil))))) (pw_or1 (pt_not (pt_val (pe_call TR.ok (hr.mono (by decide)) rfl TR.mg TR.kp TR.bi .nil pass0 (pa_cons (pe_meth (pv 0) HC.cl IZ.mt IZ.ok (hr.mono (by decide)) IZ.bi .nil passLN (pa_cons (pv 2) pa_nil)) (pa_cons (pe_dget hu (pv 3) pe_str (fun _ _ => rfl)) pa_nil)))))))) 
        (pss_one (ps_ret pe_bl)) pss_nil)
      (pss_cons (ps_if (PW.pt (pw_or (pt_not (pt_val (pe_call TR.ok (hr.mono (by decide)) rfl TR.mg TR.kp TR.bi .nil pass0 (pa_cons (pe_meth (pv 0) HC.cl IR.mt IR.ok (hr.mono (by decide)) IR.bi .nil passLN (pa_cons (pv 2) pa_nil)) (pa_cons (pe_dget hu (pv 3) pe_str (fun _ _ => rfl)) pa_nil))))) (pw_or1 (pt_not (pt_val (pe_call TR.ok (hr.mono (by decide)) rfl TR.mg TR.kp TR.bi .nil pass0 (pa_cons (pe_meth (pv 0) HC.cl IL.mt IL.ok (hr.mono (by decide)) IL.bi .nil passLN (pa_cons (pv 2) pa_nil)) (pa_cons (pv 5) pa_nil)))))))) 
        (pss_one (ps_ret pe_bl)) pss_nil)
      (pss_cut (ps_if (PW.pt (pw_or (pt_not (pt_val (pe_call TR.ok (hr.mono (by decide)) rfl TR.mg TR.kp TR.bi .nil pass0 (pa_cons (pe_meth (pv 0) HC.cl IM.mt IM.ok (hr.mono (by decide)) IM.bi .nil passLN (pa_cons (pv 2) pa_nil)) (pa_cons (pv 6) pa_nil))))) (pw_or1 (pt_cmpR op_ne (pe_meth (pv 0) HC.cl KO.mt KO.ok (hr.mono (by decide)) KO.bi .nil passLN (pa_cons (pv 2) pa_nil)) (pe_dget hu (pv 3) pe_str (fun _ _ => rfl)) (nomark _))))) 
        (pss_one (ps_ret pe_bl)) pss_nil)
      (pss_cons (ps_set (i := 7) scLg.nd rfl (.inl rfl) (pe_meth (pv 0) HC.cl KD_.mt KD_.ok (hr.mono (by decide)) KD_.bi .nil passLN (pa_cons (pv 2) pa_nil)))
      (pss_cut (ps_setLc (i := 8) (own := [("_law_field_here", 10)]) (g := gName 10) (tt := tYes) (te := (tTup (tCons (tFld K (tVar 10) "name") (tCons (tFld K (tVar 10) "mode") (tCons (tFld K (tVar 10) "target") (tCons (tFld K (tVar 10) "default") (tCons (tFld K (tVar 10) "was") tNil))))))) rfl scLg.nd rfl rfl (sw_true rfl rfl rfl (by decide +kernel)) (pi_tup (pe_fld (pv 7) rfl)) (blkOk_by (N := nLg) (sc := defScope sLg) (by decide +kernel)) (fun _ _ _ _ _ => pg_name (i := 10) scLg.nd rfl (Or.inl rfl)) (fun _ _ _ _ _ => pts_nil) (fun _ _ _ _ _ => (pe_tup (pa_cons (pe_fld (pv 10) rfl) (pa_cons (pe_fld (pv 10) rfl) (pa_cons (pe_fld (pv 10) rfl) (pa_cons (pe_fld (pv 10) rfl) (pa_cons (pe_fld (pv 10) rfl) pa_nil))))))))
      (pss_cons (ps_set (i := 9) scLg.nd rfl (.inl rfl) (pe_lst (pa_cons (pe_fld (pv 7) rfl) (pa_cons (pe_fld (pv 7) rfl) (pa_cons (pe_fld (pv 7) rfl) (pa_cons (pe_fld (pv 7) rfl) (pa_cons (pe_fld (pv 7) rfl) (pa_cons (pe_fld (pv 7) rfl) (pa_cons (pv 8) pa_nil)))))))))
      (pss_one (ps_ret (pe_cmpR (op_eqD hr.units) (pv 9) (pe_lst (pa_cons (pv 2) (pa_cons (pe_dget hu (pv 3) pe_str (fun _ _ => rfl)) (pa_cons (pe_dget hu (pv 3) pe_str (fun _ _ => rfl)) (pa_cons (pe_dget hu (pv 3) pe_str (fun _ _ => rfl)) (pa_cons (pe_dget hu (pv 3) pe_str (fun _ _ => rfl)) (pa_cons (pe_dget hu (pv 3) pe_str (fun _ _ => rfl)) (pa_cons (pe_dget hu (pv 3) pe_str (fun _ _ => rfl)) pa_nil)))))))) (nomark _)))))))))))))), ?_⟩
    refine ⟨_, rfl, _, rfl, l, x.n, rs, x, rfl, R, by omega, atx, fun u H1 r1 s1 => ?_⟩
    refine ⟨_, rfl, _, rfl, l, x.n, rs, x, rfl, R.same s1, by omega, atx, fun z ez => ⟨rfl, ro.base x mx z ez⟩, by omega, fun a us H2 fa ea ev s2 => ?_⟩
    obtain ⟨d, lo, ws, rfl, hd1, hlo1, ew1⟩ := r1
    have s02 := s1.trans s2
    have hd := s02 _ _ hd1
    have hlo := s02.seq hlo1
    have ew := ew1.same (mLF K) s02
    have lu := ev.1
    refine ⟨fun σ H3 => σ = [some (.ref s), some (.ref l), some (.str x.n), some (.ref d), some (.ref a), some (.bl (slotsK rs x).isEmpty), none, none, none, none, none] ∧ Same H2 H3, ?_, ?_⟩
    · refine ⟨_, rfl, a, rfl, ⟨us, SqL.of ea⟩, fun D hD => ?_⟩
      refine lc_sieve (mLF K) (mLF K) (fun g => !decide (g.m = ("mark" : Str))) id walk_list (by omega) (fun H' s => SqL.of (s _ _ ea)) hD ev ?_ ?_ ?_
      · rintro _ g H5 Rq _ _ ⟨t, wt, rfl, ht, hwt⟩ kk
        refine ⟨_, rfl, t, _, _, _, rfl, rfl, ht, atI_nat (j := 1) rfl, rfl, _, rfl, ?_⟩
        rw [dec_s]
        exact kk _ (Same.refl _)
      · rintro u g H5 Rq _ _ _ r kk
        exact ⟨_, rfl, kk _ _ (Same.refl _) r⟩
      intro H3 zs s3 hz ez
      refine ⟨D, zs, rfl, .inl (SqL.of hz), rfl, ?_, s3⟩
      rw [ez.1, show decide (V.int ((List.map id ((allF rs x).filter fun g => !decide (g.m = ("mark" : Str)))).length : Nat) = V.int 0) = (slotsK rs x).isEmpty by
        rw [List.map_id]
        unfold slotsK
        cases (allF rs x).filter fun g => !decide (g.m = ("mark" : Str)) with
        | nil => rfl
        | cons g gs =>
          refine decide_eq_false fun e => ?_
          injection e with e
          rw [List.length_cons] at e
          omega]
      rfl
    rintro _ H3 ⟨rfl, s3⟩
    refine ⟨fun σ H4 => σ = [some (.ref s), some (.ref l), some (.str x.n), some (.ref d), some (.ref a), some (.bl (slotsK rs x).isEmpty), some (.bl (movK rs x)), none, none, none, none] ∧ Same H3 H4, ?_, ?_⟩
    · refine ⟨_, rfl, d, _, rfl, g_frozen (s3 _ _ hd), ?_⟩
      unfold movK
      cases ef : x.f with
      | true => exact ⟨_, rfl, _, rfl, rfl, Same.refl _⟩
      | false =>
        refine ⟨_, rfl, _, rfl, iteT ?_⟩
        refine ⟨_, rfl, a, rfl, ⟨us, SqL.of (s3 _ _ ea)⟩, fun D hD => ?_⟩
        refine lc_sieve (mLF K) (mLF K) (fun g => !decide (V.str g.n = tv x.k)) id walk_list (by omega) (fun H' s => SqL.of (s _ _ (s3 _ _ ea))) hD (ev.same (mLF K) s3) ?_ ?_ ?_
        · rintro _ g H5 Rq _ s5 ⟨t, wt, rfl, ht, hwt⟩ kk
          exact ⟨_, rfl, t, _, _, _, rfl, rfl, ht, atI_nat (j := 0) rfl, _, rfl, d, _, rfl, g_key (s5 _ _ (s3 _ _ hd)), scal_tv (some g.n) x.k, _, rfl, kk _ (Same.refl _)⟩
        · rintro u g H5 Rq _ _ _ r kk
          exact ⟨_, rfl, kk _ _ (Same.refl _) r⟩
        intro H4 zs s4 hz ez
        refine ⟨D, zs, rfl, .inl (SqL.of hz), _, _, rfl, rfl, ?_, s4⟩
        rw [ez.1]
        show [_, _, _, _, _, _, some (V.bl (decide ((0 : Int) < (_ : Nat)))), none, none, none, none] = _
        rw [show decide ((0 : Int) < ((List.map id ((allF rs x).filter fun g => !decide (V.str g.n = tv x.k))).length : Nat)) = ((allF rs x).map fun g => !decide (V.str g.n = tv x.k)).any id by
          rw [List.map_id, Bool.eq_iff_iff, decide_eq_true_eq, List.any_map, List.any_eq_true]
          constructor
          · intro h
            have : 0 < ((allF rs x).filter fun g => !decide (V.str g.n = tv x.k)).length := by omega
            obtain ⟨g, mg⟩ := List.exists_mem_of_length_pos this
            exact ⟨g, (List.mem_filter.mp mg).1, (List.mem_filter.mp mg).2⟩
          · rintro ⟨g, mg, e⟩
            have : 0 < ((allF rs x).filter fun g => !decide (V.str g.n = tv x.k)).length := List.length_pos_of_mem (List.mem_filter.mpr ⟨mg, e⟩)
            omega]
        rfl
    rintro _ H4 ⟨rfl, s4⟩
    have s04 := s02.trans (s3.trans s4)
    have s24 := s3.trans s4
    have mS : ∀ {H H' : Hp}, Same H H' → True := fun _ => trivial
    refine ⟨_, rfl, s, hx, _, rfl, s04 _ _ hs, rfl, _, rfl, askM (ha.same s04) mx ox ⟨_, rfl, d, _, rfl, g_heirs (s24 _ _ hd), ⟨_, _, rfl, _, rfl, iteSame ?_⟩⟩⟩
    refine ⟨_, rfl, s, hx, _, rfl, s04 _ _ hs, rfl, _, rfl, askM (ha.same s04) mx ox ⟨_, rfl, d, _, rfl, g_frozen (s24 _ _ hd), ⟨_, _, rfl, _, rfl, iteSame ?_⟩⟩⟩
    refine ⟨_, rfl, s, hx, _, rfl, s04 _ _ hs, rfl, _, rfl, askM (ha.same s04) mx ox ⟨_, rfl, d, _, rfl, g_registered (s24 _ _ hd), ⟨_, _, rfl, _, rfl, iteSame ?_⟩⟩⟩
    refine ⟨_, rfl, s, hx, _, rfl, s04 _ _ hs, rfl, _, rfl, askM (ha.same s04) mx ox fun H5 s5 => ⟨_, rfl, ⟨_, _, rfl, _, rfl, iteSame ?_⟩⟩⟩
    have s05 := s04.trans s5
    have s25 := s24.trans s5
    refine ⟨fun σ H6 => σ = [some (.ref s), some (.ref l), some (.str x.n), some (.ref d), some (.ref a), some (.bl (slotsK rs x).isEmpty), some (.bl (movK rs x)), none, none, none, none] ∧ Same H5 H6, ?_, ?_⟩
    · refine ⟨_, rfl, s, hx, _, rfl, s05 _ _ hs, rfl, _, rfl, askM (ha.same s05) mx ox fun H6 s6 => ⟨_, rfl, ⟨_, _, rfl, _, rfl, iteSame ?_⟩⟩⟩
      have s06 := s05.trans s6
      refine ⟨_, rfl, s, hx, _, rfl, s06 _ _ hs, rfl, _, rfl, askM (ha.same s06) mx ox ⟨_, rfl, d, _, rfl, g_key ((s25.trans s6) _ _ hd), scal_tv _ _, _, rfl, ?_⟩⟩
      rw [decide_eq_true rfl]
      exact iteF ⟨rfl, s6⟩
    rintro _ H6 ⟨rfl, s6⟩
    have s06 := s05.trans s6
    have s26 := s25.trans s6
    refine ⟨_, rfl, s, hx, _, rfl, s06 _ _ hs, rfl, _, rfl, askM (ha.same s06) mx ox fun u ru => ?_⟩
    obtain ⟨kd, dk, tf, rfl, hk, wsf, htf, evf⟩ := ru
    refine ⟨fun σ H7 => ∃ (O : Addr) (zs : List V), σ = [some (.ref s), some (.ref l), some (.str x.n), some (.ref d), some (.ref a), some (.bl (slotsK rs x).isEmpty), some (.bl (movK rs x)), some (.ref kd), some (.ref O), none, none] ∧ H7 O = some (.lst zs) ∧ Ev (rLF K) H7 zs x.fs ∧ Same H6 H7, ?_, ?_⟩
    · refine ⟨_, rfl, kd, CK, dk, _, _, rfl, hk, C.cl, C.no _ (by simp), (lk_ks _ _ _ _ _ _ _).2.1, tf, rfl, ⟨wsf, htf⟩, fun O hO => ?_⟩
      refine lc_sieve (mF K CF) (mLF K) (fun _ => true) id walk_tup (by have := (rv x mx).f10; omega) (fun H' s => s.sqT htf) hO evf (fun v c H2 Rq _ _ _ kk => kk _ (Same.refl _)) ?_ ?_
      · rintro u g H7 Rq _ _ s7 r kk
        obtain ⟨b, rfl, ⟨dy, tw, hb, htw⟩, _⟩ := id r
        refine ⟨_, rfl, b, CF, dy, _, _, rfl, hb, CFc.cl, CFc.no _ (by simp), (lk_fs _ _ _ _ _).2.2.2.2, _, rfl, b, CF, dy, _, _, rfl, hb, CFc.cl, CFc.no _ (by simp), (lk_fs _ _ _ _ _).2.2.2.1, _, rfl, b, CF, dy, _, _, rfl, hb, CFc.cl, CFc.no _ (by simp), (lk_fs _ _ _ _ _).2.2.1, _, rfl, b, CF, dy, _, _, rfl, hb, CFc.cl, CFc.no _ (by simp), (lk_fs _ _ _ _ _).2.1, _, rfl, b, CF, dy, _, _, rfl, hb, CFc.cl, CFc.no _ (by simp), (lk_fs _ _ _ _ _).1, by show 5 ≤ sizeLine; decide, fun T hT => ?_⟩
        exact kk _ _ (same_new hT) ⟨T, tw, rfl, SqT.of upd_same, (same_new hT).sqT htw⟩
      intro H7 zs s7 hz ez
      rw [filter_all, List.map_id] at ez
      exact ⟨O, zs, rfl, hz, ez, s7⟩
    rintro _ H7 ⟨O, zs, rfl, eO, eZ, s7⟩
    have hk7 := s7 _ _ hk
    have hd7 := (s26.trans s7) _ _ hd
    refine ⟨_, rfl, kd, CK, dk, _, _, rfl, hk7, C.cl, C.no _ (by simp), (lk_ks _ _ _ _ _ _ _).1, _, rfl, kd, CK, dk, _, _, rfl, hk7, C.cl, C.no _ (by simp), (lk_ks _ _ _ _ _ _ _).2.2.1, _, rfl, kd, CK, dk, _, _, rfl, hk7, C.cl, C.no _ (by simp), (lk_ks _ _ _ _ _ _ _).2.2.2.1, _, rfl, kd, CK, dk, _, _, rfl, hk7, C.cl, C.no _ (by simp), (lk_ks _ _ _ _ _ _ _).2.2.2.2.1, _, rfl, kd, CK, dk, _, _, rfl, hk7, C.cl, C.no _ (by simp), (lk_ks _ _ _ _ _ _ _).2.2.2.2.2.1, _, rfl, kd, CK, dk, _, _, rfl, hk7, C.cl, C.no _ (by simp), (lk_ks _ _ _ _ _ _ _).2.2.2.2.2.2, _, rfl, by show 7 ≤ sizeLine; decide, fun T1 f1 => ?_⟩
    have s8 := same_new (o := HO.lst [V.str x.n, tv x.b, .bl x.f, .bl x.h, tv x.k, .bl x.r, .ref O]) f1
    have hd8 := s8 _ _ hd7
    refine ⟨_, rfl, _, rfl, _, rfl, d, _, rfl, g_base hd8, _, rfl, d, _, rfl, g_frozen hd8, _, rfl, d, _, rfl, g_heirs hd8, _, rfl, d, _, rfl, g_key hd8, _, rfl, d, _, rfl, g_registered hd8, _, rfl, d, _, rfl, g_own hd8, by show 7 ≤ sizeLine; decide, fun T2 f2 => ?_⟩
    have s9 := same_new (o := HO.lst [V.str x.n, tv x.b, .bl x.f, .bl x.h, tv x.k, .bl x.r, .ref lo]) f2
    have s29 := s26.trans (s7.trans (s8.trans s9))
    have dp : ∀ {o : Addr} {us : List V} (H' : Hp), SqL K H' o us → Ev (rLF K) H' us x.fs → DpAll K H' [V.str x.n, tv x.b, .bl x.f, .bl x.h, tv x.k, .bl x.r, .ref o] [.str x.n, tvD x.b, .bool x.f, .bool x.h, tvD x.k, .bool x.r, .list (x.fs.map fvD)] := fun H' h e =>
      .cons (.str _) (.cons (dp_tv _) (.cons (.bl _) (.cons (.bl _) (.cons (dp_tv _) (.cons (.bl _) (.cons (.lst h (dp_fields e)) .nil))))))
    have sh := kdD_shaped (rv x mx)
    refine ⟨kdD x, kdD x, .lst (SqL.of (s9 _ _ upd_same)) (dp _ (SqL.of ((s8.trans s9) _ _ eO)) (eZ.same (mLF K) (s8.trans s9))), .lst (SqL.of upd_same) (dp _ (s29.seq hlo) (ew.same (mLF K) s29)), sh, sh, ?_⟩
    rw [SeqAt.eqv_refl _ (Bool.and_eq_true_iff.mp sh).1]
    exact k _ (s06.trans (s7.trans (s8.trans s9)))
end
end Wh
set_option Elab.async false
set_option linter.all false
set_option maxRecDepth 100000
set_option maxHeartbeats 4000000
namespace Wp
open PySem L2 PySem.Spec PyProof.Rows
/-! ## small data -/
structure Sm (n m : Nat) (d : PyData) : Prop where
  sh : d.showable = true
  nd : d.hasDict = false
  dp : d.depth ≤ n
  ls : d.leavesShort 40 = true
  wt : d.weight ≤ m
theorem log_of {i : Int} (h : i.natAbs < 10 ^ 35) : i.natAbs.log2 < 1920 := by
  have h2 : i.natAbs < 2 ^ 1920 := Nat.lt_of_lt_of_le h (by decide +kernel)
  by_cases z : i.natAbs = 0
  · rw [z]
    decide
  · exact (Nat.log2_lt z).mpr h2
theorem short_of {i : Int} (h : i.natAbs < 10 ^ 35) : (PyData.shown (.int i)).length ≤ 40 := by
  have e := int_text_length_le10 (k := 35) (by decide) h
  show (Str.ofString (toString i)).length ≤ 40
  rw [PySem.ofString_length]
  omega
theorem wi_of {i : Int} (h : i.natAbs < 10 ^ 35) : (PyData.int i).weight ≤ 118 := by
  have h2 : i.natAbs < 2 ^ 117 := Nat.lt_of_lt_of_le h (by decide +kernel)
  simp only [PyData.weight]
  split
  · exact Nat.zero_le _
  · by_cases z : i.natAbs = 0
    · rw [z]
      decide
    · have := (Nat.log2_lt z).mpr h2
      omega

theorem sm_int {i : Int} (h : i.natAbs < 10 ^ 35) : Sm 0 118 (.int i) := ⟨decide_eq_true (log_of h), rfl, by simp [PyData.depth], by show decide _ = true; exact decide_eq_true (short_of h), wi_of h⟩
theorem sm_str {x : Str} (h1 : ∀ c ∈ x.cps.toList, c < 16 ^ 8) (h2 : x.length ≤ 20) : Sm 0 118 (.str x) := by
  refine ⟨rfl, rfl, by simp [PyData.depth], ?_, ?_⟩
  · show (x.cps.toList.all fun c => decide (c < 16 ^ 8)) = true
    exact List.all_eq_true.mpr fun c hc => decide_eq_true (h1 c hc)
  · have : x.cps.size = x.length := rfl
    simp only [PyData.weight]
    omega
theorem cp_of (x : String) : ∀ c ∈ (Str.ofString x).cps.toList, c < 16 ^ 8 := by
  intro c hc
  have e : (16 : Nat) ^ 8 = 4294967296 := by decide
  rw [Str.ofString_eq_toList] at hc
  simp at hc
  obtain ⟨ch, _, rfl⟩ := hc
  rw [e]
  exact ch.val.toNat_lt
theorem sm_all {n m : Nat} : ∀ ds : List PyData, (∀ d ∈ ds, Sm n m d) → PyData.showableAll ds = true ∧ PyData.hasDictAll ds = false ∧ PyData.depthAll ds ≤ n ∧ PyData.leavesShortAll 40 ds = true ∧ PyData.weightAll ds ≤ (m + 1) * ds.length
  | [], _ => ⟨rfl, rfl, by simp [PyData.depthAll], rfl, by simp [PyData.weightAll]⟩
  | d :: ds, h => by
    obtain ⟨a, b, c, e, f⟩ := sm_all ds fun x hx => h x (List.mem_cons_of_mem _ hx)
    have g := h d List.mem_cons_self
    refine ⟨?_, ?_, ?_, ?_, ?_⟩
    · show (d.showable && PyData.showableAll ds) = true
      rw [g.sh, a]
      rfl
    · show (d.hasDict || PyData.hasDictAll ds) = false
      rw [g.nd, b]
      rfl
    · have := g.dp
      simp only [PyData.depthAll]
      omega
    · show (d.leavesShort 40 && PyData.leavesShortAll 40 ds) = true
      rw [g.ls, e]
      rfl
    · have := g.wt
      simp only [PyData.weightAll, List.length_cons, Nat.mul_add]
      omega
theorem sm_tup {n m : Nat} {ds : List PyData} (h : ∀ d ∈ ds, Sm n m d) : Sm (n + 1) ((m + 1) * ds.length) (.tuple ds) := by
  obtain ⟨a, b, c, e, f⟩ := sm_all ds h
  exact ⟨a, b, by simp only [PyData.depth]; omega, e, by simp only [PyData.weight]; omega⟩
theorem sm_lst {n m : Nat} {ds : List PyData} (h : ∀ d ∈ ds, Sm n m d) : Sm (n + 1) ((m + 1) * ds.length) (.list ds) := by
  obtain ⟨a, b, c, e, f⟩ := sm_all ds h
  exact ⟨a, b, by simp only [PyData.depth]; omega, e, by simp only [PyData.weight]; omega⟩
theorem Sm.le {n m n' m' : Nat} {d : PyData} (h : Sm n m d) (a : n ≤ n') (b : m ≤ m') : Sm n' m' d := ⟨h.sh, h.nd, Nat.le_trans h.dp a, h.ls, Nat.le_trans h.wt b⟩
theorem Sm.shown {n m : Nat} {d : PyData} (h : Sm n m d) (hm : m ≤ 100000) : d.shown.length ≤ sizeLine := by
  have q := PyData.shown_le 40 (by decide) d h.ls
  have := h.wt
  rw [sizeLine_eq]
  omega
end Wp
set_option Elab.async false
set_option linter.all false
set_option maxRecDepth 100000
set_option maxHeartbeats 4000000
namespace Wh
open PySem PySem.Spec PyProof.Rows L2
open Wp hiding Same.refl Same.trans same_new boot_all run_own
open W8 (Ev Rp Kp Mono same_new take_snoc rW rB mW mB ev_words ev_words_eq ev_bools_eq lc_sieve)
/-! ## what is no kind, perhaps -/
theorem isK_cps {x : Str} (h : IsK x) : ∀ c ∈ x.cps.toList, c < 128 := by
  have q := h.ok
  simp only [Wp.isKindName] at q
  intro c hc
  cases e : x.cps.toList with
  | nil => rw [e] at hc; cases hc
  | cons a r =>
    rw [e] at hc q
    simp only [Bool.and_eq_true, decide_eq_true_eq, List.all_eq_true] at q
    have lo : ∀ c ∈ Wp.largeS.cps.toList, c < 128 := by decide +kernel
    have so : ∀ c ∈ Wp.smallS.cps.toList, c < 128 := by decide +kernel
    rcases List.mem_cons.mp hc with rfl | hc
    · exact lo _ q.1.2
    · exact so _ (q.2 c hc)
theorem ascii_ok {x : Str} (h : ∀ c ∈ x.cps.toList, c < 128) : PyData.strOk x = true := strOk_of fun c hc => Nat.lt_trans (h c hc) (by decide)
theorem lo1_lt {c : Nat} (h : c < 128) : lo1 c < 128 := by
  unfold lo1
  split <;> omega
theorem lower_cps {x : Str} (h : ∀ c ∈ x.cps.toList, c < 128) : (∀ c ∈ (Txt.lower x).cps.toList, c < 128) ∧ (Txt.lower x).length = x.length := by
  rw [lower_ascii h]
  refine ⟨fun c hc => ?_, ?_⟩
  · have : c ∈ x.cps.toList.map lo1 := by simpa using hc
    obtain ⟨d, hd, rfl⟩ := List.mem_map.mp this
    exact lo1_lt (h d hd)
  · show (x.cps.map lo1).size = x.cps.size
    simp
/-- any value that is small enough to be told -/
structure OddV (K : PySem.W.Frag) (H : Hp) (v : V) (d : PyData) : Prop where
  q : Dq K H v d
  it : Sz d
  one : Sz (.list [d])
  two : ∀ n : Str, (∀ c ∈ n.cps.toList, c < 128) → n.length ≤ 20 → Sz (.list [.str n, d])
theorem sm_asc {x : Str} (h : ∀ c ∈ x.cps.toList, c < 128) (l : x.length ≤ 20) : Wp.Sm 0 118 (.str x) := Wp.sm_str (fun c hc => Nat.lt_trans (h c hc) (by decide)) l
theorem Sm.sz {n m : Nat} {d : PyData} (h : Wp.Sm n m d) (hn : n ≤ 10) (hm : m ≤ 100000) : Sz d := ⟨h.sh, Nat.le_trans h.dp hn, h.shown hm⟩
theorem OddV.of {K : PySem.W.Frag} {H : Hp} {v : V} {d : PyData} (q : Dq K H v d) (s : Wp.Sm 1 200 d) : OddV K H v d := by
  refine ⟨q, Sm.sz s (by decide) (by decide), ?_, fun n hn ln => ?_⟩
  · refine Sm.sz (Wp.sm_lst (n := 1) (m := 200) (ds := [d]) fun e m => ?_) (by decide) (by show 201 * 1 ≤ 100000; decide)
    rw [List.mem_singleton.mp m]
    exact s
  · refine Sm.sz (Wp.sm_lst (n := 1) (m := 200) (ds := [.str n, d]) fun e m => ?_) (by decide) (by show 201 * 2 ≤ 100000; decide)
    rcases List.mem_cons.mp m with rfl | m
    · exact (sm_asc hn ln).le (by decide) (by decide)
    · rw [List.mem_singleton.mp m]
      exact s
theorem OddV.dct {K : PySem.W.Frag} {H : Hp} {a : Addr} (h : H a = some (.dK [])) : OddV K H (.ref a) (.dict []) := by
  refine ⟨.dct h, ⟨by decide +kernel, by decide +kernel, by decide +kernel⟩, ⟨by decide +kernel, by decide +kernel, by decide +kernel⟩, fun n hn ln => ?_⟩
  have s := sm_asc hn ln
  refine ⟨?_, ?_, ?_⟩
  · simp [PyData.showable, PyData.showableAll, PyData.showableKv]
  · simp [PyData.depth, PyData.depthAll, PyData.depthKv]
  · have q := PyData.shown_le 40 (by decide) (.list [.str n, .dict []]) (by
      have := s.ls
      simp only [PyData.leavesShort, PyData.leavesShortAll, PyData.leavesShortKv] at this ⊢
      rw [this]
      rfl)
    have w := s.wt
    simp only [PyData.weight, PyData.weightAll, PyData.weightKv] at q w
    rw [sizeLine_eq]
    omega
theorem OddV.same {K : PySem.W.Frag} {H H' : Hp} {v : V} {d : PyData} (h : OddV K H v d) (s : Same H H') : OddV K H' v d := ⟨h.q.same s, h.it, h.one, h.two⟩
theorem OddV.go {K : PySem.W.Frag} {p c : Addr} {ns : List Int} {H H' : Hp} {v : V} {d : PyData} (h : OddV K H v d) (pn : Pn p c ns H) (g : Go p c ns H H') : OddV K H' v d := ⟨g.dq pn h.q, h.it, h.one, h.two⟩
section
variable {P : Program} {w : World} {K : PySem.W.Frag} {mg : Str → Option Value} {base : Heap} {CF CK CH CU CV CB : Addr}
abbrev sOk : Stmt := top 55
abbrev nOk : List Str := ["_law_pen_here", "_law_names", "_law_menu"]
def spOk (K : PySem.W.Frag) : Sp := fun vs H Q _ => ∃ (p c l : Addr) (ns : List Int) (nm : List Str), vs = [.ref p, .ref l] ∧ Pn p c ns H ∧ SqL K H l (nm.map V.str) ∧ 1 ≤ nm.length ∧ (∀ z ∈ nm, IsK z) ∧
  ∀ v d H', OddV K H' v d → Go p c ns H H' → Q v H'
theorem scOk : FnScope nOk ["_law_pen_here", "_law_names"] (defScope sOk) := ⟨rfl, rfl, rfl, by decide +kernel, rfl, by decide +kernel, by decide +kernel⟩
theorem ok_Ok {f f1 : Addr} {fd fd1 : FuncData} (F : Fun K "_law_odd_kind" "_law_odd_kind" sOk f fd) (OO : Known P w K mg base CX0 2 "_law_one_of" ["_law_pen_here", "_law_menu"] (spOne K) f1 fd1) :
    FnOk P w K mg base CX0 3 f fd ["_law_pen_here", "_law_names"] (spOk K) := by
  refine F.ok scOk (fun vs H Q E h => ?_) (fun cdv A outer s0 H vs Q E hr h => ?_)
  · obtain ⟨p, c, l, ns, nm, rfl, _⟩ := h
    rfl
  · obtain ⟨p, c, l, ns, nm, rfl, pn, hl, l1, ik, k⟩ := h
    refine ⟨_, 
      (pss_cons (ps_set (i := 2) scOk.nd rfl (.inl rfl) (pe_lst (pa_cons pe_non (pa_cons pe_bl (pa_cons pe_int (pa_cons pe_str (pa_cons pe_str (pa_cons pe_str (pa_cons pe_str (pa_cons (pe_tup pa_nil) (pa_cons (pe_lst pa_nil) (pa_cons pe_dnewK (pa_cons (pe_tup (pa_cons (pe_ix ix_list (pv 1) pe_int (fun _ _ => rfl)) pa_nil)) (pa_cons (pe_lst (pa_cons (pe_ix ix_list (pv 1) pe_int (fun _ _ => rfl)) pa_nil)) (pa_cons (pe_op op_add_str (pe_ix ix_list (pv 1) pe_int (fun _ _ => rfl)) pe_str) (pa_cons (pe_lower (pe_ix ix_list (pv 1) pe_int (fun _ _ => rfl))) pa_nil))))))))))))))))
      (pss_one (ps_ret (pe_call OO.ok (hr.mono (by decide)) rfl OO.mg OO.kp OO.bi .nil pass0 (pa_cons (pv 0) (pa_cons (pv 2) pa_nil)))))), ?_⟩
    obtain ⟨n0, hn0⟩ : ∃ z, nm[0]? = some z := ⟨_, List.getElem?_eq_getElem (by omega)⟩
    have k0 := ik n0 (List.mem_of_getElem? hn0)
    have c0 := isK_cps k0
    have l0 := k0.l1
    have at0 : (nm.map V.str)[0]? = some (.str n0) := by rw [List.getElem?_map, hn0]; rfl
    have sn : Wp.Sm 0 118 (.str n0) := sm_asc c0 (by omega)
    have on := ascii_ok c0
    have ix : ∀ {H' : Hp}, Same H H' → SqL K H' l (nm.map V.str) := fun s => s.seq hl
    refine ⟨by show 0 ≤ sizeLine; decide, fun a1 f1 => ?_⟩
    refine ⟨by show 0 ≤ sizeLine; decide, fun a2 f2 => ?_⟩
    intro a3 f3
    have t1 := same_new (o := HO.tup []) f1
    have t2 := same_new (o := HO.lst []) f2
    have t3 := same_new (o := HO.dK []) f3
    have s3 := t1.trans (t2.trans t3)
    have m1 : OddV K (upd (upd (upd H a1 (.tup [])) a2 (.lst [])) a3 (.dK [])) (.ref a1) (.tuple []) := .of (.dat (.tup (SqT.of (t3 _ _ (t2 _ _ upd_same))) .nil) (by decide +kernel)) ((Wp.sm_tup (n := 0) (m := 118) (ds := []) (fun d m => by cases m)).le (by decide) (by decide))
    have m2 : OddV K (upd (upd (upd H a1 (.tup [])) a2 (.lst [])) a3 (.dK [])) (.ref a2) (.list []) := .of (.dat (.lst (SqL.of (t3 _ _ upd_same)) .nil) (by decide +kernel)) ((Wp.sm_lst (n := 0) (m := 118) (ds := []) (fun d m => by cases m)).le (by decide) (by decide))
    have m3 : OddV K (upd (upd (upd H a1 (.tup [])) a2 (.lst [])) a3 (.dK [])) (.ref a3) (.dict []) := .dct upd_same
    obtain ⟨H3, eH3⟩ : ∃ H3, upd (upd (upd H a1 (.tup [])) a2 (.lst [])) a3 (.dK []) = H3 := ⟨_, rfl⟩
    rw [eH3] at s3 m1 m2 m3 ⊢
    refine ⟨_, rfl, l, _, 0, _, rfl, rfl, ix s3, atI_nat (j := 0) at0, by show 1 ≤ sizeLine; decide, fun a4 f4 => ?_⟩
    have t4 := same_new (o := HO.tup [V.str n0]) f4
    have s4 := s3.trans t4
    refine ⟨_, rfl, l, _, 0, _, rfl, rfl, ix s4, atI_nat (j := 0) at0, by show 1 ≤ sizeLine; decide, fun a5 f5 => ?_⟩
    have t5 := same_new (o := HO.lst [V.str n0]) f5
    have s5 := s4.trans t5
    have sh1 : SeqAt.shaped (.tuple [.str n0]) = true := by simp [SeqAt.shaped, PyData.canLay0, PyData.canLayAll0, PyData.depth, PyData.depthAll, on]
    have sh2 : SeqAt.shaped (.list [.str n0]) = true := by simp [SeqAt.shaped, PyData.canLay0, PyData.canLayAll0, PyData.depth, PyData.depthAll, on]
    have one : ∀ d ∈ [PyData.str n0], Wp.Sm 0 118 d := fun d m => by rw [List.mem_singleton.mp m]; exact sn
    have m4 : OddV K (upd (upd H3 a4 (.tup [.str n0])) a5 (.lst [.str n0])) (.ref a4) (.tuple [.str n0]) := .of (.dat (.tup (SqT.of (t5 _ _ upd_same)) (.cons (.str _) .nil)) sh1) ((Wp.sm_tup one).le (by decide) (by show 119 * 1 ≤ 200; decide))
    have m5 : OddV K (upd (upd H3 a4 (.tup [.str n0])) a5 (.lst [.str n0])) (.ref a5) (.list [.str n0]) := .of (.dat (.lst (SqL.of upd_same) (.cons (.str _) .nil)) sh2) ((Wp.sm_lst one).le (by decide) (by show 119 * 1 ≤ 200; decide))
    have t45 := t4.trans t5
    obtain ⟨H5, eH5⟩ : ∃ H5, upd (upd H3 a4 (.tup [.str n0])) a5 (.lst [.str n0]) = H5 := ⟨_, rfl⟩
    rw [eH5] at s5 m4 m5 t45 ⊢
    refine ⟨_, rfl, l, _, 0, _, rfl, rfl, ix s5, atI_nat (j := 0) at0, ?_⟩
    have lx : ("x" : Str).length = 1 := by decide +kernel
    refine ⟨_, _, rfl, rfl, by rw [sizeLine_eq, lx]; omega, ?_⟩
    refine ⟨_, rfl, l, _, 0, _, rfl, rfl, ix s5, atI_nat (j := 0) at0, ?_⟩
    refine ⟨⟨n0, rfl⟩, n0, rfl, rfl, by omega, ?_⟩
    refine ⟨by show 14 ≤ sizeLine; decide, fun Mn fM => ?_⟩
    have sM := same_new (o := HO.lst [V.non, .bl true, .int 0, .str "", .str "any", .str "Any", .str "a", .ref a1, .ref a2, .ref a3, .ref a4, .ref a5, .str (n0 ++ "x"), .str (Txt.lower n0)]) fM
    have s6 := s5.trans sM
    refine ⟨_, rfl, _, rfl, ?_⟩
    dsimp (config := { proj := false }) only [tCons, L2.tC, tNil, List.append_nil]
    refine one_go (pn.same s6) (SqL.of upd_same) (by show 0 < 14; decide) (by show 14 ≤ 1000; decide) fun v H7 mv g => ?_
    have g07 := (Go.of pn s6).trans g
    have str : ∀ {z : Str}, (∀ c ∈ z.cps.toList, c < 128) → z.length ≤ 20 → OddV K H7 (.str z) (.str z) := fun h l => .of (.dat (.str _) (shaped_str (ascii_ok h))) ((sm_asc h l).le (by decide) (by decide))
    simp only [List.mem_cons, List.not_mem_nil, or_false] at mv
    rcases mv with rfl | rfl | rfl | rfl | rfl | rfl | rfl | rfl | rfl | rfl | rfl | rfl | rfl | rfl
    · exact k _ _ _ (.of (.dat .non rfl) ⟨rfl, rfl, by simp [PyData.depth], rfl, by simp [PyData.weight]⟩) g07
    · exact k _ _ _ (.of (.dat (.bl true) rfl) ⟨rfl, rfl, by simp [PyData.depth], rfl, by simp [PyData.weight]⟩) g07
    · exact k _ _ _ (.of (.dat (.int 0) rfl) ((Wp.sm_int (by decide)).le (by decide) (by decide))) g07
    · exact k _ _ _ (str (by decide +kernel) (by decide +kernel)) g07
    · exact k _ _ _ (str (by decide +kernel) (by decide +kernel)) g07
    · exact k _ _ _ (str (by decide +kernel) (by decide +kernel)) g07
    · exact k _ _ _ (str (by decide +kernel) (by decide +kernel)) g07
    · exact k _ _ _ ((m1.same (t45.trans sM)).go (pn.same s6) g) g07
    · exact k _ _ _ ((m2.same (t45.trans sM)).go (pn.same s6) g) g07
    · exact k _ _ _ ((m3.same (t45.trans sM)).go (pn.same s6) g) g07
    · exact k _ _ _ ((m4.same sM).go (pn.same s6) g) g07
    · exact k _ _ _ ((m5.same sM).go (pn.same s6) g) g07
    · refine k _ _ _ (str (fun c hc => ?_) ?_) g07
      · have hc : c ∈ n0.cps.toList ++ ("x" : Str).cps.toList := by
          have e : (n0 ++ ("x" : Str)).cps.toList = n0.cps.toList ++ ("x" : Str).cps.toList := by
            show (n0.cps ++ ("x" : Str).cps).toList = _
            rw [Array.toList_append]
          rw [← e]
          exact hc
        rcases List.mem_append.mp hc with hc | hc
        · exact c0 c hc
        · have : ∀ c ∈ ("x" : Str).cps.toList, c < 128 := by decide +kernel
          exact this c hc
      · show (n0.cps ++ ("x" : Str).cps).size ≤ 20
        rw [Array.size_append]
        have e1 : n0.cps.size = n0.length := rfl
        have e2 : ("x" : Str).cps.size = 1 := by decide +kernel
        omega
    · obtain ⟨a, b⟩ := lower_cps c0
      exact k _ _ _ (str a (by omega)) g07
end
end Wh
set_option Elab.async false
set_option linter.all false
set_option maxRecDepth 100000
set_option maxHeartbeats 4000000
namespace Wh
open PySem PySem.Spec PyProof.Rows L2
open Wp hiding Same.refl Same.trans same_new boot_all run_own boot_repr
open W8 (Ev Rp Kp Mono same_new take_snoc rW rB mW mB ev_words ev_words_eq ev_bools_eq lc_sieve)
/-! ## what is no kind is refused -/
theorem iteSameV {α : Type} {a : α} [inst : Decidable (a = a)] {p q : Prop} (h : q) : if (!decide (a = a)) = true then p else q := by
  rw [decide_eq_true rfl]
  exact h
section
variable {P : Program} {w : World} {K : PySem.W.Frag} {mg : Str → Option Value} {base : Heap} {CF CK CH CU CV CB : Addr}
abbrev sRf : Stmt := top 62
abbrev nRf : List Str := ["_law_house", "_law_names", "_law_thing", "_law_way", "_law_told", "e", "_law_other"]
def spRf (K : PySem.W.Frag) (CF CK CH : Addr) : Sp := fun vs H Q _ => ∃ (s : Addr) (v nl : V) (d : PyData) (root : Str) (ks : List KD), vs = [.ref s, nl, v] ∧ HouseAt K CF CK CH H s root ks ∧ (∀ x ∈ ks, ∀ g ∈ allF ks x, PyData.strOk g.n = true) ∧ OddV K H v d ∧ inHouse ks d = false ∧
  ∀ H', Same H H' → Q (.bl true) H'
theorem scRf : FnScope nRf ["_law_house", "_law_names", "_law_thing"] (defScope sRf) := ⟨rfl, rfl, rfl, by decide +kernel, rfl, by decide +kernel, by decide +kernel⟩
theorem ok_Rf {f f1 f2 f3 fU : Addr} {fd fd1 fd2 fd3 fdU : FuncData} (F : Fun K "_law_refused" "_law_refused" sRf f fd) (B : Bn mg) (hS : SysDict K) (HC : PlainC K CH houseAt) (LC : Known P w K mg base (L2N.CX P w) 7 "_law_call" ["_law_house", "_law_way", "_law_thing"] (spLc K CF CK CH CU) f1 fd1)
    (AM : KMt P w K mg base CH (L2N.CX P w) 3 "admitted" ["self", "target"] (spAm2 K CF CK CH CU) f2 fd2) (AS_ : KMt P w K mg base CH (L2N.CX P w) 4 "admits" ["self", "target", "kind"] (spAs K CF CK CH CU) f3 fd3) (MU : Mk1 P w K mg base "UnknownKind" "name" CU fU fdU) (XU : XfC K CU) (uu : PySem.W.exmOne K (.ref CU) (.ref CU) = some true) :
    GOk P w K mg base CX0 8 f fd ["_law_house", "_law_names", "_law_thing"] (spRf K CF CK CH) := by
  refine gok_of F scRf (fun vs H Q E h => ?_) (fun cdv A outer s0 H vs Q E hG hr h => ?_)
  · obtain ⟨s, v, nl, d, root, ks, rfl, _⟩ := h
    rfl
  · obtain ⟨s, v, nl, d, root, ks, rfl, ha, gok, od, bad, k⟩ := h
    have hu := hu_of hr
    have hu20 : (A.deeper (envOfC "_law_refused" (defScope sRf) s0.heap.objs.size f cdv)).units + 20 < cLine := by
      have := hr.un
      omega
    refine ⟨_, 
      (pss_cut (ps_for PassesOwn.leaving rfl (pi_range1 rfl B.range (pa_cons pe_int pa_nil)) (pg_name (i := 3) scRf.nd rfl (Or.inl rfl)) 
        (pss_cons (ps_set (i := 4) scRf.nd rfl (.inl rfl) (pe_lst pa_nil))
        (pss_cons (L2N.ps_try_as (i := 5) (Wout := fun _ _ _ _ => False) rfl rfl scRf.nd rfl rfl ⟨rfl, by decide, .inl MU.gC⟩ takesN0
        (fun W pn xe tk _ => pss_one (ps_expr (by exact (pe_callS LC.ok (hr.mono (by decide)) rfl LC.mg LC.kp LC.bi (fun σ => L2N.passAt tk σ) (pa_cons (pv 0) (pa_cons (pv 3) (pa_cons (pv 2) pa_nil)))))))
        (fun a oe cls d pn hz hf => pss_one (ps_set (i := 4) scRf.nd rfl (.inl rfl) (pe_lst (pa_cons (pe_xf XU MU.no hz.zc hf (pv 5)) pa_nil)))))
        (pss_one (ps_if (pt_cmpR op_ne (pe_callB (show CallR _ _ (rReprL K) from call_reprL hS hG hu20) (by rfl) B.repr Wp.boot_repr (pa_cons (pv 4) pa_nil)) (pe_callB (show CallR _ _ (rReprL K) from call_reprL hS hG hu20) (by rfl) B.repr Wp.boot_repr (pa_cons (pe_lst (pa_cons (pv 2) pa_nil)) pa_nil)) (nomark _)) 
          (pss_one (ps_ret pe_bl)) pss_nil)))))
      (pss_cons (ps_if (pt_cmpR op_eq (pe_callB (show CallR _ _ (rReprL K) from call_reprL hS hG hu20) (by rfl) B.repr Wp.boot_repr (pa_cons (pv 2) pa_nil)) (pe_callB (show CallR _ _ (rReprL K) from call_reprL hS hG hu20) (by rfl) B.repr Wp.boot_repr (pa_cons pe_str pa_nil)) (nomark _)) 
        (pss_one (ps_ret pe_bl)) pss_nil)
      (pss_cons (ps_set (i := 4) scRf.nd rfl (.inl rfl) (pe_lst pa_nil))
      (pss_cut (L2N.ps_try_as (i := 5) (Wout := fun _ _ _ _ => False) rfl rfl scRf.nd rfl rfl ⟨rfl, by decide, .inl MU.gC⟩ takesN0
        (fun W pn xe tk _ => pss_one (ps_expr (by exact (pe_methSS (pv 0) HC.cl AM.mt AM.ok (hr.mono (by decide)) AM.bi (fun σ => L2N.passAt tk σ) (pa_cons (pv 2) pa_nil)))))
        (fun a oe cls d pn hz hf => pss_one (ps_set (i := 4) scRf.nd rfl (.inl rfl) (pe_lst (pa_cons (pe_xf XU MU.no hz.zc hf (pv 5)) pa_nil)))))
      (pss_cons (ps_set (i := 6) scRf.nd rfl (.inl rfl) (pe_lst pa_nil))
      (pss_cut (L2N.ps_try_as (i := 5) (Wout := fun _ _ _ _ => False) rfl rfl scRf.nd rfl rfl ⟨rfl, by decide, .inl MU.gC⟩ takesN0
        (fun W pn xe tk _ => pss_one (ps_expr (by exact (pe_methSS (pv 0) HC.cl AS_.mt AS_.ok (hr.mono (by decide)) AS_.bi (fun σ => L2N.passAt tk σ) (pa_cons (pv 2) (pa_cons pe_int pa_nil))))))
        (fun a oe cls d pn hz hf => pss_one (ps_set (i := 6) scRf.nd rfl (.inl rfl) (pe_lst (pa_cons (pe_xf XU MU.no hz.zc hf (pv 5)) pa_nil)))))
      (pss_one (ps_ret (pe_and (pe_cmpR op_eq (pe_callB (show CallR _ _ (rReprL K) from call_reprL hS hG hu20) (by rfl) B.repr Wp.boot_repr (pa_cons (pv 4) pa_nil)) (pe_callB (show CallR _ _ (rReprL K) from call_reprL hS hG hu20) (by rfl) B.repr Wp.boot_repr (pa_cons (pe_lst (pa_cons (pv 2) pa_nil)) pa_nil)) (nomark _)) (pe_one (pe_cmpR op_eq (pe_callB (show CallR _ _ (rReprL K) from call_reprL hS hG hu20) (by rfl) B.repr Wp.boot_repr (pa_cons (pv 6) pa_nil)) (pe_callB (show CallR _ _ (rReprL K) from call_reprL hS hG hu20) (by rfl) B.repr Wp.boot_repr (pa_cons (pe_lst (pa_cons (pv 2) pa_nil)) pa_nil)) (nomark _)))))))))))), ?_⟩
    obtain ⟨dx, _, _, _, _, _, _, hs, _⟩ := id ha.ex
    refine ⟨fun σ H1 => ∃ v3 v4 v5, σ = [some (.ref s), some nl, some v, v3, v4, v5, none] ∧ Same H H1, ?_, ?_⟩
    · refine ⟨15, rfl, by decide, by decide, ?_⟩
      refine for_it walk_range (fun i σ H' => ∃ v3 v4 v5, σ = [some (.ref s), some nl, some v, v3, v4, v5, none] ∧ Same H H') ⟨none, none, none, rfl, Same.refl _⟩ (fun _ _ _ _ _ => trivial) ?_ ?_
      · rintro i y σ _ H1 hi ⟨v3, v4, v5, rfl, s1⟩ ⟨rfl, rfl⟩
        refine ⟨by show 0 ≤ sizeLine; decide, fun T0 f0 => ?_⟩
        have s2 := s1.trans (same_new (o := HO.lst []) f0)
        refine ⟨_, rfl, _, rfl, _, rfl, s, _, v, d, root, ks, rfl, ha.same s2, gok, od.q.same s2, bad, fun H2 e s3 ne e1 => ?_⟩
        refine ⟨true, uu, fun _ a0 na0 => ?_, fun q => Bool.noConfusion q⟩
        refine ⟨_, rfl, rfl, rfl, e, _, v, rfl, e1, (by simp [List.lookup]), by show 1 ≤ sizeLine; decide, fun T hT => ?_⟩
        have s4 := s2.trans (s3.trans (same_new (o := HO.lst [v]) hT))
        refine ⟨_, rfl, .ref T, .list [d], rfl, .one (SqL.of upd_same) (od.q.same s4), od.one.sh, od.one.dp, od.one.ln, ?_⟩
        refine ⟨_, rfl, by show 1 ≤ sizeLine; decide, fun T2 f2 => ?_⟩
        have s5 := s4.trans (same_new (o := HO.lst [v]) f2)
        refine ⟨.ref T2, .list [d], rfl, .one (SqL.of upd_same) (od.q.same s5), od.one.sh, od.one.dp, od.one.ln, rfl, _, rfl, iteSameV ?_⟩
        exact ⟨_, _, _, rfl, s5⟩
      · rintro σ H1 h
        exact h
    rintro _ H1 ⟨v3, v4, v5, rfl, s1⟩
    refine ⟨_, rfl, v, d, rfl, .q (od.q.same s1), od.it.sh, od.it.dp, od.it.ln, .str "any", .str "any", rfl, .q (.dat (.str _) (by decide +kernel)), by decide +kernel, by decide +kernel, by decide +kernel, rfl, _, rfl, ?_⟩
    refine ite2 (fun _ => k H1 s1) fun na => ?_
    have nv : v ≠ .str "any" := fun e => by
      subst e
      have ed : d = .str "any" := by
        have q := od.q
        cases q with
        | dat q _ => cases q; rfl
      subst ed
      exact na (decide_eq_true rfl)
    have out : ∀ t : Str, v = .str t → (t = "any" ∨ t ∈ ks.map (·.n)) → False := fun t et ht => by
      subst et
      have ed : d = .str t := by
        have q := od.q
        cases q with
        | dat q _ => cases q; rfl
      subst ed
      rcases ht with rfl | m
      · exact nv rfl
      · rw [show inHouse ks (.str t) = true from decide_eq_true m] at bad
        cases bad
    refine ⟨by show 0 ≤ sizeLine; decide, fun T0 f0 => ?_⟩
    have s2 := s1.trans (same_new (o := HO.lst []) f0)
    obtain ⟨H2, eH2⟩ : ∃ H2, upd H1 T0 (.lst []) = H2 := ⟨_, rfl⟩
    rw [eH2] at s2 ⊢
    refine ⟨fun σ H3 => ∃ T v3 v5, σ = [some (.ref s), some nl, some v, v3, some (.ref T), v5, none] ∧ H3 T = some (.lst [v]) ∧ Same H H3, ?_, ?_⟩
    · refine ⟨_, rfl, s, dx, _, rfl, s2 _ _ hs, rfl, _, rfl, s, v, d, root, ks, rfl, ha.same s2, od.q.same s2, fun t et ht => (out t et ht).elim, fun _ _ H3 e s3 ne e1 => ?_⟩
      refine ⟨true, uu, fun _ a0 na0 => ?_, fun q => Bool.noConfusion q⟩
      refine ⟨_, rfl, rfl, rfl, e, _, v, rfl, e1, (by simp [List.lookup]), by show 1 ≤ sizeLine; decide, fun T hT => ?_⟩
      exact ⟨T, _, _, rfl, upd_same, s2.trans (s3.trans (same_new (o := HO.lst [v]) hT))⟩
    rintro _ H3 ⟨T, v3, v5, rfl, eT, s3⟩
    refine ⟨by show 0 ≤ sizeLine; decide, fun O0 f0 => ?_⟩
    have s34 := same_new (o := HO.lst []) f0
    obtain ⟨H4, eH4⟩ : ∃ H4, upd H3 O0 (.lst []) = H4 := ⟨_, rfl⟩
    rw [eH4] at s34 ⊢
    have s4 := s3.trans s34
    refine ⟨fun σ H5 => ∃ O v3 v5, σ = [some (.ref s), some nl, some v, v3, some (.ref T), v5, some (.ref O)] ∧ H5 O = some (.lst [v]) ∧ Same H4 H5, ?_, ?_⟩
    · refine ⟨_, rfl, s, dx, _, rfl, s4 _ _ hs, rfl, _, rfl, s, v, .int 0, d, .int 0, root, ks, rfl, ha.same s4, od.q.same s4, .dat (.int 0) rfl, fun t x et ht => (out t et ht).elim, fun t et ht => (out t et ht).elim, fun _ _ H5 e s5 ne e1 => ?_⟩
      refine ⟨true, uu, fun _ a0 na0 => ?_, fun q => Bool.noConfusion q⟩
      refine ⟨_, rfl, rfl, rfl, e, _, v, rfl, e1, (by simp [List.lookup]), by show 1 ≤ sizeLine; decide, fun O hO => ?_⟩
      exact ⟨O, _, _, rfl, upd_same, s5.trans (same_new (o := HO.lst [v]) hO)⟩
    rintro _ H5 ⟨O, v3, v5, rfl, eO, s5⟩
    have s05 := s4.trans s5
    refine ⟨_, rfl, .ref T, .list [d], rfl, .one (SqL.of (s5 _ _ (s34 _ _ eT))) (od.q.same s05), od.one.sh, od.one.dp, od.one.ln, ?_⟩
    refine ⟨_, rfl, by show 1 ≤ sizeLine; decide, fun A1 f1 => ?_⟩
    have s6 := same_new (o := HO.lst [v]) f1
    refine ⟨.ref A1, .list [d], rfl, .one (SqL.of upd_same) (od.q.same (s05.trans s6)), od.one.sh, od.one.dp, od.one.ln, rfl, _, rfl, ?_⟩
    rw [decide_eq_true (p := V.str (PyData.list [d]).shown = V.str (PyData.list [d]).shown) rfl]
    refine iteT ?_
    refine ⟨_, rfl, .ref O, .list [d], rfl, .one (SqL.of (s6 _ _ eO)) (od.q.same (s05.trans s6)), od.one.sh, od.one.dp, od.one.ln, ?_⟩
    refine ⟨_, rfl, by show 1 ≤ sizeLine; decide, fun A2 f2 => ?_⟩
    have s7 := s6.trans (same_new (o := HO.lst [v]) f2)
    refine ⟨.ref A2, .list [d], rfl, .one (SqL.of upd_same) (od.q.same (s05.trans s7)), od.one.sh, od.one.dp, od.one.ln, rfl, ?_⟩
    rw [decide_eq_true (p := V.str (PyData.list [d]).shown = V.str (PyData.list [d]).shown) rfl]
    exact k _ (s05.trans s7)
abbrev sOf : Stmt := top 63
abbrev nOf : List Str := ["_law_house", "_law_rows", "_law_name", "_law_thing", "_law_known", "_law_told", "e", "_law_field_here"]
def spOf (K : PySem.W.Frag) (CF CK CH : Addr) : Sp := fun vs H Q _ => ∃ (s l : Addr) (v : V) (d : PyData) (root : Str) (rs : List KD) (x : KD), vs = [.ref s, .ref l, .str x.n, v] ∧ HouseAt K CF CK CH H s root rs ∧ RowsL K H l rs ∧ (∀ y ∈ rs, RowV y) ∧ x ∈ rs ∧ OddV K H v d ∧
  ∀ H', Same H H' → Q (.bl true) H'
theorem scOf : FnScope nOf ["_law_house", "_law_rows", "_law_name", "_law_thing"] (defScope sOf) := ⟨rfl, rfl, rfl, by decide +kernel, rfl, by decide +kernel, by decide +kernel⟩
theorem ok_Of {f f1 f2 fV : Addr} {fd fd1 fd2 fdV : FuncData} (F : Fun K "_law_odd_field" "_law_odd_field" sOf f fd) (B : Bn mg) (hS : SysDict K) (HC : PlainC K CH houseAt) (AF : Known P w K mg base CX0 3 "_law_all_fields" ["_law_rows", "_law_name"] (spAf K true) f1 fd1)
    (FD : KMt P w K mg base CH (L2N.CX P w) 4 "field_of" ["self", "kind", "name"] (spFd3 K CF CK CH CU CV) f2 fd2) (MV : Mk2 P w K mg base "UnknownField" "kind" "name" CV fV fdV) (XV : XfC K CV) (vv : PySem.W.exmOne K (.ref CV) (.ref CV) = some true) :
    GOk P w K mg base CX0 6 f fd ["_law_house", "_law_rows", "_law_name", "_law_thing"] (spOf K CF CK CH) := by
  refine gok_of F scOf (fun vs H Q E h => ?_) (fun cdv A outer s0 H vs Q E hG hr h => ?_)
  · obtain ⟨s, l, v, d, root, rs, x, rfl, _⟩ := h
    rfl
  · obtain ⟨s, l, v, d, root, rs, x, rfl, ha, R, rv, mx, od, k⟩ := h
    have hu := hu_of hr
    have hu20 : (A.deeper (envOfC "_law_odd_field" (defScope sOf) s0.heap.objs.size f cdv)).units + 20 < cLine := by
      have := hr.un
      omega
    have ok := ha.ok
    have ro := ok.rowsOk rv
    have ox : PyData.strOk x.n = true := (Bool.and_eq_true_iff.mp (rv x mx).good.n).1
    have gok : ∀ y ∈ rs, ∀ g ∈ allF rs y, PyData.strOk g.n = true := fun y my g mg => let ⟨z, mz, h⟩ := allF_mem my mg; (field_ok ((rv z mz).fs g h).right.n).1
    have few := ok.few mx
    have n12 := ok.n12
    have atx := atName_of ro.nd mx
    have kn := (rv x mx).n
    have two := od.two x.n (isK_cps kn) (by have := kn.l1; omega)
    obtain ⟨dx, _, _, _, _, _, _, hs, _⟩ := id ha.ex
    refine ⟨_, 
      (pss_cut (ps_set (i := 4) scOf.nd rfl (.inl rfl) (pe_and (pe_callB call_isi (by rfl) B.isi boot_isi (pa_cons (pv 3) (pa_cons (pe_bltn (v := .ty "str") (by rfl) B.str boot_tstr rfl) pa_nil))) (pe_one (pe_cmpR op_in_seq (pv 3) (pe_lc (own := [("_law_field_here", 7)]) (g := gName 7) (tt := tYes) (te := (tOp (rIxT K) (tVar 7) (tC (.int 0)))) rfl scOf.nd (pi_list (pe_call AF.ok (hr.mono (by decide)) rfl AF.mg AF.kp AF.bi .nil pass0 (pa_cons (pv 1) (pa_cons (pv 2) pa_nil)))) (blkOk_by (N := nOf) (sc := defScope sOf) (by decide +kernel)) (fun _ _ _ _ _ => pg_name (i := 7) scOf.nd rfl (Or.inl rfl)) (fun _ _ _ _ _ => pts_nil) (fun _ _ _ _ _ => (pe_ix ix_tup (pv 7) pe_int (fun _ _ => rfl)))) (by rfl)))))
      (pss_cons (ps_set (i := 5) scOf.nd rfl (.inl rfl) (pe_lst pa_nil))
      (pss_cut (L2N.ps_try_as (i := 6) (Wout := fun _ _ _ _ => False) rfl rfl scOf.nd rfl rfl ⟨rfl, by decide, .inl MV.gC⟩ takesN0
        (fun W pn xe tk _ => pss_one (ps_expr (by exact (pe_methSS (pv 0) HC.cl FD.mt FD.ok (hr.mono (by decide)) FD.bi (fun σ => L2N.passAt tk σ) (pa_cons (pv 2) (pa_cons (pv 3) pa_nil))))))
        (fun a oe cls d pn hz hf => pss_one (ps_set (i := 5) scOf.nd rfl (.inl rfl) (pe_lst (pa_cons (pe_xf XV MV.no hz.zc hf (pv 6)) (pa_cons (pe_xf XV MV.no2 hz.zc hf (pv 6)) pa_nil))))))
      (pss_cons (ps_if (pt_val (pv 4)) 
        (pss_one (ps_ret (pe_cmpR (op_eqD hr.units) (pv 5) (pe_lst pa_nil) (nomark _)))) pss_nil)
      (pss_one (ps_ret (pe_cmpR op_eq (pe_callB (show CallR _ _ (rReprL K) from call_reprL hS hG hu20) (by rfl) B.repr Wp.boot_repr (pa_cons (pv 5) pa_nil)) (pe_callB (show CallR _ _ (rReprL K) from call_reprL hS hG hu20) (by rfl) B.repr Wp.boot_repr (pa_cons (pe_lst (pa_cons (pv 2) (pa_cons (pv 3) pa_nil))) pa_nil)) (nomark _)))))))), ?_⟩
    refine ⟨fun σ H1 => σ = [some (.ref s), some (.ref l), some (.str x.n), some v, some (.bl (fieldNamed (allF rs x) d).isSome), none, none, none] ∧ Same H H1, ?_, ?_⟩
    · refine ⟨_, rfl, _, _, _, _, _, rfl, .ty "str", od.q.ty, kit_str d, _, rfl, ?_⟩
      cases d with
      | str z =>
        have ev0 : v = .str z := by
          have q := od.q
          cases q with
          | dat q _ => cases q; rfl
        subst ev0
        refine iteT ⟨_, rfl, _, rfl, _, rfl, l, x.n, rs, x, rfl, R, by omega, atx, fun z ez => ⟨rfl, ro.base x mx z ez⟩, by omega, fun a us H1 fa ea ev s1 => ?_⟩
        refine ⟨a, rfl, ⟨us, SqL.of ea⟩, fun D hD => ?_⟩
        refine lc_sieve (mLF K) mW (fun _ => true) (fun g => g.n) walk_list (by omega) (fun H' s => SqL.of (s _ _ ea)) hD ev (fun v c H2 Rq _ _ _ kk => kk _ (Same.refl _)) ?_ ?_
        · rintro _ g H5 Rq _ _ _ ⟨t, wt, rfl, ht, hwt⟩ kk
          exact ⟨_, rfl, t, _, _, _, rfl, rfl, ht, atI_nat (j := 0) rfl, kk _ _ (Same.refl _) rfl⟩
        intro H2 zs s2 hz ez
        rw [filter_all] at ez
        cases ev_words_eq ez
        refine ⟨D, _, rfl, .inl (SqL.of hz), rfl, flat_strs _, ?_⟩
        rw [mem_in, show decide (z ∈ (allF rs x).map (fun g => g.n)) = (fieldNamed (allF rs x) (.str z)).isSome by
          simp only [fieldNamed]
          rw [Bool.eq_iff_iff, decide_eq_true_eq, List.find?_isSome]
          exact ⟨fun m => let ⟨g, mg, e⟩ := List.mem_map.mp m; ⟨g, mg, decide_eq_true e⟩, fun ⟨g, mg, e⟩ => List.mem_map.mpr ⟨g, mg, of_decide_eq_true e⟩⟩]
        exact ⟨rfl, s1.trans s2⟩
      | _ => exact ⟨rfl, Same.refl _⟩
    rintro _ H1 ⟨rfl, s1⟩
    refine ⟨by show 0 ≤ sizeLine; decide, fun T0 f0 => ?_⟩
    have s2 := s1.trans (same_new (o := HO.lst []) f0)
    have e0 : upd H1 T0 (.lst []) T0 = some (.lst []) := upd_same
    obtain ⟨H2, eH2⟩ : ∃ H2, upd H1 T0 (.lst []) = H2 := ⟨_, rfl⟩
    rw [eH2] at s2 e0 ⊢
    refine ⟨fun σ H3 => ∃ T v6, σ = [some (.ref s), some (.ref l), some (.str x.n), some v, some (.bl (fieldNamed (allF rs x) d).isSome), some (.ref T), v6, none] ∧ (((fieldNamed (allF rs x) d).isSome = true ∧ H3 T = some (.lst [])) ∨ ((fieldNamed (allF rs x) d).isSome = false ∧ H3 T = some (.lst [.str x.n, v]))) ∧ Same H2 H3, ?_, ?_⟩
    · refine ⟨_, rfl, s, dx, _, rfl, s2 _ _ hs, rfl, _, rfl, _, rfl, s, .str x.n, v, .str x.n, d, root, rs, rfl, ha.same s2, .dat (.str _) (shaped_str ox), od.q.same s2, gok, fun bad => (by rw [in_house mx] at bad; cases bad), fun y my e => ?_⟩
      have en : y = x := by
        have e9 : x.n = y.n := PyData.str.inj e
        have a1 := ha.ok.atN mx
        have a2 := ha.ok.atN my
        rw [e9, a2] at a1
        exact Option.some.inj a1
      subst en
      refine ⟨fun g eg u ru => ⟨T0, none, rfl, .inl ⟨by rw [eg]; rfl, e0⟩, Same.refl _⟩, fun no H3 e s3 ne e1 => ?_⟩
      refine ⟨true, vv, fun _ a0 na0 => ?_, fun q => Bool.noConfusion q⟩
      refine ⟨_, rfl, rfl, rfl, e, _, .str y.n, rfl, e1, rfl, _, rfl, rfl, rfl, e, _, v, rfl, e1, rfl, by show 2 ≤ sizeLine; decide, fun T hT => ?_⟩
      exact ⟨T, _, rfl, .inr ⟨by rw [no]; rfl, upd_same⟩, s3.trans (same_new (o := HO.lst [.str y.n, v]) hT)⟩
    rintro _ H3 ⟨T, v6, rfl, h, s3⟩
    have s03 := s2.trans s3
    rcases h with ⟨kn, eT⟩ | ⟨kn, eT⟩
    · rw [kn]
      refine ⟨_, rfl, _, rfl, iteT ?_⟩
      refine ⟨_, rfl, by show 0 ≤ sizeLine; decide, fun A1 f1 => ?_⟩
      have s4 := same_new (o := HO.lst []) f1
      exact ⟨.list [], .list [], .lst (SqL.of (s4 _ _ eT)) .nil, .lst (SqL.of upd_same) .nil, rfl, rfl, k _ (s03.trans s4)⟩
    · rw [kn]
      refine ⟨_, rfl, _, rfl, iteF ?_⟩
      refine ⟨_, rfl, .ref T, .list [.str x.n, d], rfl, .two (SqL.of eT) (od.q.same s03), two.sh, two.dp, two.ln, ?_⟩
      refine ⟨_, rfl, _, rfl, by show 2 ≤ sizeLine; decide, fun A1 f1 => ?_⟩
      have s4 := s03.trans (same_new (o := HO.lst [.str x.n, v]) f1)
      refine ⟨.ref A1, .list [.str x.n, d], rfl, .two (SqL.of upd_same) (od.q.same s4), two.sh, two.dp, two.ln, rfl, ?_⟩
      rw [decide_eq_true (p := V.str (PyData.list [.str x.n, d]).shown = V.str (PyData.list [.str x.n, d]).shown) rfl]
      exact k _ s4
end
end Wh
set_option Elab.async false
set_option linter.all false
set_option maxRecDepth 100000
set_option maxHeartbeats 4000000
namespace Wh
open PySem PySem.Spec PyProof.Rows L2
open Wp hiding Same.refl Same.trans same_new boot_all run_own boot_repr
/-! ## a house with one kind emptied -/
/-- a kind without fields -/
def kd0 (n : Str) : KD := { n := n, fs := [], b := none, f := false, h := false, k := none, r := false }
theorem kd0_ok {n : Str} (h : IsK n) : RowV (kd0 n) := ⟨h, (fun _ e => by cases e), fun h => absurd rfl h, (fun e => by cases e), (fun e => by cases e), (fun _ e => by cases e), (fun _ e => by cases e), List.nodup_nil, Nat.zero_le _⟩
section
variable {rs : List KD} {i : Nat} {x : KD}
theorem set_names (e : rs[i]? = some x) : (rs.set i (kd0 x.n)).map (·.n) = rs.map (·.n) := by
  refine List.ext_getElem? fun j => ?_
  rw [List.getElem?_map, List.getElem?_map, List.getElem?_set]
  split
  · next h =>
    subst h
    rw [e]
    have := (List.getElem?_eq_some_iff.mp e).1
    simp [this, kd0]
  · rfl
theorem find_set (b : Str) : ∀ {rs : List KD} {i : Nat}, rs[i]? = some x ∨ rs.length ≤ i → b ≠ x.n → ((rs.set i (kd0 x.n)).find? fun e => decide (e.n = b)) = rs.find? fun e => decide (e.n = b)
  | [], _, _, _ => by simp
  | z :: rs, 0, h, nb => by
    rcases h with h | h
    · cases h
      rw [List.set_cons_zero, List.find?_cons_of_neg (fun q => nb (of_decide_eq_true q).symm), List.find?_cons_of_neg (fun q => nb (of_decide_eq_true q).symm)]
    · simp at h
  | z :: rs, i + 1, h, nb => by
    rw [List.set_cons_succ]
    have ih := find_set b (rs := rs) (i := i) (by simpa using h) nb
    by_cases q : z.n = b
    · rw [List.find?_cons_of_pos (by simp [q]), List.find?_cons_of_pos (by simp [q])]
    · rw [List.find?_cons_of_neg (by simp [q]), List.find?_cons_of_neg (by simp [q])]
      exact ih
theorem find_self : ∀ {rs : List KD} {i : Nat}, rs[i]? = some x → (rs.map (·.n)).Nodup → ((rs.set i (kd0 x.n)).find? fun e => decide (e.n = x.n)) = some (kd0 x.n)
  | [], _, h, _ => by simp at h
  | z :: rs, 0, h, _ => by
    rw [List.set_cons_zero, List.find?_cons_of_pos (by simp [kd0])]
  | z :: rs, i + 1, h, nd => by
    rw [List.map_cons, List.nodup_cons] at nd
    have h : rs[i]? = some x := by simpa using h
    rw [List.set_cons_succ, List.find?_cons_of_neg (by
      simp only [decide_eq_true_eq]
      intro q
      exact nd.1 (q ▸ List.mem_map_of_mem (List.mem_of_getElem? h)))]
    exact find_self h nd.2
theorem base_set {es : List KD} {b : Str} (h : es[i]? = some x ∨ es.length ≤ i) (nb : b ≠ x.n) : baseFs (es.set i (kd0 x.n)) b = baseFs es b := by
  unfold baseFs
  rw [find_set b h nb]
theorem allF_set {es : List KD} {y : KD} (h : es[i]? = some x ∨ es.length ≤ i) (nb : ∀ b, y.b = some b → b ≠ x.n) : allF (es.set i (kd0 x.n)) y = allF es y := by
  unfold allF
  cases eb : y.b with
  | none => rfl
  | some b =>
    show baseFs (es.set i (kd0 x.n)) b ++ _ = baseFs es b ++ _
    rw [base_set h (nb b eb)]
theorem letB_set (e : rs[i]? = some x) (nd : (rs.map (·.n)).Nodup) {t o : Str} (h : letB (rs.set i (kd0 x.n)) t o = true) : letB rs t o = true := by
  unfold letB baseOf at *
  by_cases q : o = x.n
  · rw [q, find_self e nd] at h
    rw [q]
    simp only [Option.bind_some, kd0, Bool.or_eq_true, decide_eq_true_eq] at h ⊢
    rcases h with h | h
    · exact .inl h
    · cases h
  · rw [find_set o (.inl e) q] at h
    exact h
theorem rch_mono {L M : Str → List Str} {n m : Str} (h : ∀ a b, b ∈ L a → b ∈ M a) (r : Rch L n m) : Rch M n m := by
  induction r with
  | one q => exact .one (h _ _ q)
  | more _ q ih => exact .more ih (h _ _ q)
open Classical in
theorem mem_far {ks : List KD} {n m : Str} : m ∈ farK ks n ↔ m ∈ ks.map (·.n) ∧ Rch (leadOf ks) n m := by
  unfold farK farOf
  rw [List.mem_filter]
  constructor
  · rintro ⟨a, b⟩
    exact ⟨a, of_decide_eq_true b⟩
  · rintro ⟨a, b⟩
    exact ⟨a, decide_eq_true b⟩
theorem HouseOk.bent {root : Str} (ok : HouseOk root rs) (e : rs[i]? = some x) (nh : x.h = false) : HouseOk root (rs.set i (kd0 x.n)) := by
  have nd := ok.nd
  have li := (List.getElem?_eq_some_iff.mp e).1
  have mx := List.mem_of_getElem? e
  have names := set_names e
  -- no kind has it as its base
  have nb : ∀ y ∈ rs, ∀ b, y.b = some b → b ≠ x.n := fun y my b eb q => by
    obtain ⟨j, ej⟩ := HouseOk.at_mem my
    obtain ⟨z, mz, ez, hz⟩ := (ok.alone j y ej).base b eb
    have a1 := ok.atN (List.mem_of_mem_take mz)
    have a2 := ok.atN mx
    rw [ez, q, a2] at a1
    cases Option.some.inj a1
    rw [nh] at hz
    cases hz
  have lead : ∀ a b, b ∈ leadOf (rs.set i (kd0 x.n)) a → b ∈ leadOf rs a := by
    intro a b h
    unfold leadOf atName at *
    by_cases q : a = x.n
    · rw [q, find_self e nd] at h
      simp only [Option.map_some, Option.getD_some] at h
      unfold ledBy at h
      have h := (List.mem_filter.mp h).2
      rw [show allF (rs.set i (kd0 x.n)) (kd0 x.n) = [] from rfl] at h
      cases h
    · rw [find_set a (.inl e) q] at h
      cases f : rs.find? fun e => decide (e.n = a) with
      | none => rw [f] at h; cases h
      | some y =>
        rw [f] at h
        have my := List.mem_of_find?_eq_some f
        simp only [Option.map_some, Option.getD_some] at h ⊢
        unfold ledBy at *
        rw [List.mem_filter, names, allF_set (.inl e) (nb y my)] at h
        refine List.mem_filter.mpr ⟨h.1, ?_⟩
        have h2 := h.2
        rw [List.any_map, List.any_eq_true] at h2 ⊢
        obtain ⟨t, mt, ht⟩ := h2
        exact ⟨t, mt, letB_set e nd ht⟩
  have far : ∀ n m, m ∈ farK (rs.set i (kd0 x.n)) n → m ∈ farK rs n := fun n m h => by
    rw [mem_far] at h ⊢
    rw [names] at h
    exact ⟨h.1, rch_mono lead h.2⟩
  have at_ : ∀ (j : Nat) y, (rs.set i (kd0 x.n))[j]? = some y → (j = i ∧ y = kd0 x.n) ∨ (j ≠ i ∧ rs[j]? = some y) := fun j y h => by
    rw [List.getElem?_set] at h
    by_cases q : i = j
    · subst q
      simp [li] at h
      exact .inl ⟨rfl, h.symm⟩
    · rw [if_neg q] at h
      exact .inr ⟨fun z => q z.symm, h⟩
  refine ⟨by rw [List.length_set]; exact ok.n1, by rw [List.length_set]; exact ok.n12, fun j y h => ?_, fun y my fy => ?_, ?_⟩
  · rw [names]
    rcases at_ j y h with ⟨rfl, rfl⟩ | ⟨ne, ej⟩
    · have al := ok.alone j x e
      refine ⟨?_, (fun _ q => by cases q), Nat.zero_le _, List.nodup_nil, (fun _ q => by cases q), (fun _ q => by cases q)⟩
      rw [show (rs.set j (kd0 x.n)).take j = rs.take j by rw [List.take_set_of_le (Nat.le_refl _)]]
      exact al.new
    · have al := ok.alone j y ej
      have my := List.mem_of_getElem? ej
      have et : (rs.set i (kd0 x.n)).take j = (rs.take j).set i (kd0 x.n) := by rw [List.take_set]
      have hi : (rs.take j)[i]? = some x ∨ (rs.take j).length ≤ i := by
        by_cases q : i < j
        · left
          rw [List.getElem?_take_of_lt q]
          exact e
        · right
          rw [List.length_take]
          omega
      have ea : allF ((rs.take j).set i (kd0 x.n)) y = allF (rs.take j) y := allF_set hi (nb y my)
      have en : ((rs.take j).set i (kd0 x.n)).map (·.n) = (rs.take j).map (·.n) := by
        rcases hi with hi | hi
        · exact set_names hi
        · rw [List.set_eq_of_length_le hi]
      rw [et]
      refine ⟨by rw [en]; exact al.new, fun b eb => ?_, by rw [ea]; exact al.few, by rw [ea]; exact al.diff, by rw [ea]; exact al.aim, by rw [ea]; exact al.key⟩
      obtain ⟨z, mz, ez, hz⟩ := al.base b eb
      obtain ⟨a, ha⟩ := List.getElem?_of_mem mz
      refine ⟨z, ?_, ez, hz⟩
      refine List.mem_of_getElem? (i := a) ?_
      rw [List.getElem?_set]
      by_cases q : i = a
      · subst q
        rcases hi with hi | hi
        · rw [hi] at ha
          cases ha
          rw [nh] at hz
          cases hz
        · have := (List.getElem?_eq_some_iff.mp ha).1
          omega
      · rw [if_neg q]
        exact ha
  · obtain ⟨j, hj⟩ := List.getElem?_of_mem my
    rcases at_ j y hj with ⟨_, rfl⟩ | ⟨ne, ej⟩
    · cases fy
    · obtain ⟨h1, h2⟩ := ok.frz y (List.mem_of_getElem? ej) fy
      refine ⟨fun q => h1 (far _ _ q), fun m q => ?_⟩
      have h3 := h2 m (far _ _ q)
      unfold heirB at *
      by_cases z : m = x.n
      · rw [z, find_self e nd]
        rfl
      · rw [find_set m (.inl e) z]
        exact h3
  · obtain ⟨y, my, ey, ky⟩ := ok.root
    obtain ⟨j, ej⟩ := List.getElem?_of_mem my
    by_cases q : j = i
    · subst q
      rw [e] at ej
      cases ej
      exact ⟨kd0 x.n, List.mem_of_getElem? (i := j) (by rw [List.getElem?_set]; simp [li]), ey, rfl⟩
    · exact ⟨y, List.mem_of_getElem? (i := j) (by rw [List.getElem?_set, if_neg (fun z => q z.symm)]; exact ej), ey, ky⟩
theorem bent_eq {root : Str} (ok : HouseOk root rs) (rv : ∀ y ∈ rs, RowV y) (e : rs[i]? = some x) (nh : x.h = false) : decide (rs.set i (kd0 x.n) = rs) = (decide (x.fs = []) && (decide (x.b = none) && !x.f)) := by
  have li := (List.getElem?_eq_some_iff.mp e).1
  have mx := List.mem_of_getElem? e
  rw [Bool.eq_iff_iff, decide_eq_true_eq, Bool.and_eq_true, Bool.and_eq_true, decide_eq_true_eq, decide_eq_true_eq, Bool.not_eq_true']
  constructor
  · intro h
    have : (rs.set i (kd0 x.n))[i]? = rs[i]? := by rw [h]
    rw [e, List.getElem?_set] at this
    simp [li] at this
    have e2 : kd0 x.n = x := this
    rw [← e2]
    exact ⟨rfl, rfl, rfl⟩
  · rintro ⟨h1, h2, h3⟩
    have e2 : kd0 x.n = x := by
      have hk : x.k = none := by
        cases ek : x.k with
        | none => rfl
        | some z =>
          have al := ok.alone i x e
          have := (al.key z ek).2
          unfold allF at this
          rw [h2, h1] at this
          cases this
      have hr : x.r = false := by
        cases er : x.r with
        | false => rfl
        | true => exact absurd hk ((rv x mx).r er)
      obtain ⟨n, fs, b, f, h, k, r⟩ := x
      simp only at h1 h2 h3 hk hr nh
      subst h1 h2 h3 hk hr nh
      exact rfl
    rw [e2]
    refine List.ext_getElem? fun j => ?_
    rw [List.getElem?_set]
    split
    · next q =>
      subst q
      rw [e]
    · rfl
end
end Wh
set_option Elab.async false
set_option linter.all false
set_option maxRecDepth 100000
set_option maxHeartbeats 4000000
/-! None asked of a dict whose keys are tuples. -/
namespace Wk
open PySem PySem.Spec PyProof.Rows L2
section
variable {prog : Program} {w : World} {A : Around} {E : Value → Shared → Prop} {s : Shared} {d : Addr} {xs : List (NestedKey × Addr × Value)}
theorem eq_keyNone {k : NestedKey} {a : Addr} (hu : A.units + 8 < cLine) (k0 : (nestedKind prog w).is s.heap k a) : SeqAt.EqAt A s (.ref a) .none false := by
  have z := eqAt_key k .none A s (.ref a) .none k0.1 .none (by
    have := k0.2
    show A.units + min k.depth 0 < cLine
    omega)
  have e0 : NestedKey.beq k .none = false := by
    have k1 := k0.1
    generalize k = kk at k1
    cases k1
    rfl
  rw [e0] at z
  exact z
theorem none_find {o : Obj} {es ep} {hh : Int} {Q : Option Nat → Shared → Prop} (hu : A.units + 8 < cLine) (ho : s.heap.get? d = some o) (hd : o.data = .dict es ep) (he : es.toList = xs.map (entryOfKey (nestedKind prog w)))
    (his : ∀ x ∈ xs, (nestedKind prog w).is s.heap x.1 x.2.1) (q : Q none s) : wpAny (model prog w) A (dictFind d .none hh) Q E s := by
  have hmem : ∀ e ∈ es, ∃ x ∈ xs, e = entryOfKey (nestedKind prog w) x := by
    intro e hin
    have : e ∈ xs.map (entryOfKey (nestedKind prog w)) := he ▸ Array.mem_toList_iff.mpr hin
    obtain ⟨x, hx, rfl⟩ := List.mem_map.mp this
    exact ⟨x, hx, rfl⟩
  have hst : ∀ v ∈ (placesWithHash es.size (fun i => es[i]?.map (·.hash)) hh).filterMap (fun i => es[i]?.map (·.key)), ∃ k' b, v = .ref b ∧ (nestedKind prog w).is s.heap k' b := by
    intro v hv
    obtain ⟨i, _, hi⟩ := List.mem_filterMap.mp hv
    cases hei : es[i]? with
    | none => rw [hei] at hi; cases hi
    | some e =>
      rw [hei] at hi
      obtain rfl : e.key = v := by simpa using hi
      obtain ⟨x, hx, rfl⟩ := hmem e (Array.mem_of_getElem? hei)
      exact ⟨x.1, x.2.1, rfl, his x hx⟩
  have step : ∀ (i : Nat) (e : DictEntry), es[i]? = some e → SeqAt.EqAt A s e.key .none false := by
    intro i e hei
    obtain ⟨x, hx, rfl⟩ := hmem e (Array.mem_of_getElem? hei)
    exact eq_keyNone hu (his x hx)
  unfold dictFind
  try with_reducible refine wpAny_holding ?_
  refine wpAny_bind (wpAny_dictEntries ho hd ?_)
  dsimp only
  generalize hpl : placesWithHash es.size (fun i => es[i]?.map (·.hash)) hh = places at hst ⊢
  cases hstored : places.filterMap (fun i => es[i]?.map (·.key)) with
  | nil =>
    have no : ∀ i ∈ places, es[i]? = none := by
      intro i hi
      cases e : es[i]? with
      | none => rfl
      | some x =>
        have := List.filterMap_eq_nil_iff.mp hstored i hi
        rw [e] at this
        cases this
    rw [if_pos (by rfl)]
    unfold dictWalkPlain
    try refine wpAny_bind ?_
    try refine wpAny_bind ?_
    refine wpAny_forIn_list _ (fun rest b s' => s' = s ∧ b = (none, ()) ∧ ∀ i ∈ rest, i ∈ places) _ ?_ ?_ _ _ ⟨rfl, rfl, fun _ h => h⟩
    · rintro x rest b s' ⟨rfl, rfl, hr⟩
      rw [no x (hr x List.mem_cons_self)]
      exact wpAny_pure ⟨rfl, rfl, fun i hi => hr i (List.mem_cons_of_mem _ hi)⟩
    · rintro b s' ⟨rfl, rfl, _⟩
      first
        | exact wpAny_pure q
        | exact wpAny_pure (wpAny_pure q)
  | cons v0 vr =>
    obtain ⟨k0, b0, ev0, hk0⟩ := hst v0 (by rw [hstored]; exact List.mem_cons_self)
    rw [if_neg (by rw [ev0]; simp [carriedByValue])]
    rw [if_neg (by rw [ev0]; simp)]
    rw [hstored] at hst
    have tell : ∀ Q' : Bool → Shared → Prop, Q' false s → wpAny (model prog w) A (tableMayTell .none (v0 :: vr)) Q' E s := by
      intro Q' h
      unfold tableMayTell
      rw [if_neg (by simp)]
      refine wpAny_bind (QuietAt.byValue (n := 8) (v := .none) rfl A E _ ?_)
      simp only [Bool.not_true, Bool.false_eq_true, if_false]
      refine wpAny_bind ?_
      refine wpAny_forIn_list _ (fun rest r s' => s' = s ∧ r = (none, ()) ∧ ∀ v ∈ rest, ∃ k' b, v = .ref b ∧ (nestedKind prog w).is s.heap k' b) _ ?_ ?_ _ _ ⟨rfl, rfl, hst⟩
      · rintro x rest r s' ⟨rfl, rfl, hr⟩
        obtain ⟨k', b, rfl, hb⟩ := hr x List.mem_cons_self
        refine wpAny_bind ((nestedKind prog w).quiet hb ?_)
        simp only [Bool.not_true, Bool.false_eq_true, if_false]
        exact wpAny_pure ⟨rfl, rfl, fun v hv => hr v (List.mem_cons_of_mem _ hv)⟩
      · rintro r s' ⟨rfl, rfl, _⟩
        exact wpAny_pure h
    refine wpAny_bind (tell _ ?_)
    rw [if_neg (by simp)]
    refine wpAny_bind ?_
    refine wpAny_forIn_list _ (fun rest b s' => s' = s ∧ b = (none, none)) _ ?_ ?_ _ _ ⟨rfl, rfl⟩
    · rintro x rest b s' ⟨rfl, rfl⟩
      cases hei : es[x]? with
      | none => exact wpAny_pure ⟨rfl, rfl⟩
      | some e =>
        dsimp only
        split
        · refine wpAny_bind (wpAny_dictEpoch ho hd (wpAny_bind (step x e hei prog w E _ (wpAny_bind (wpAny_dictEpoch ho hd ?_)))))
          rw [if_neg (by simp)]
          simp only [Bool.false_eq_true, if_false]
          refine wpAny_bind (wpAny_rule ?_)
          first | rw [if_neg (by simp)] | skip
          first
            | exact wpAny_pure ⟨rfl, rfl⟩
            | exact wpAny_bind (wpAny_pure (wpAny_pure ⟨rfl, rfl⟩))
        · exact wpAny_pure ⟨rfl, rfl⟩
    · rintro b s' ⟨rfl, rfl⟩
      exact wpAny_pure q
end
end Wk
set_option Elab.async false
set_option linter.all false
set_option maxRecDepth 100000
set_option maxHeartbeats 4000000
/-! A dict whose keys are the tuples of a memo, at the hand layer. -/
namespace Wk
open PySem PySem.Spec PyProof.Rows L2
section
variable {prog : Program} {w : World} {A : Around} {E : Value → Shared → Prop} {s : Shared} {d : Addr} {xs : List (NestedKey × Addr × Value)}
theorem none_get {Q : Option Value → Shared → Prop} (hu : A.units + 8 < cLine) (hm : s.heap.DictOfH (nestedKind prog w) d xs) (h : Q none { s with toks := s.toks + 1 }) : wpAny (model prog w) A (dictGet d .none) Q E s := by
  obtain ⟨o, es, ep, ho, _, hd, he, his, hn⟩ := hm
  unfold dictGet
  try with_reducible refine wpAny_holding ?_
  refine wpAny_bind (pyHash_key (w := w) .none .none A s _ .none (show A.units + 0 < cLine by omega) (wpAny_bind (none_find (s := { s with toks := s.toks + 1 }) (o := o) hu ho hd he his ?_)))
  exact wpAny_pure h
theorem none_in {Q : Value → Shared → Prop} (hu : A.in1.units + 8 < cLine) (hd : (d == sysModules) = false) (hm : s.heap.DictOfH (nestedKind prog w) d xs) (h : Q (.bool false) { s with toks := s.toks + 1 }) :
    wpAny (model prog w) A (compareOp .In .none (.ref d)) Q E s := by
  show wpAny _ _ (do return .bool (← contains (.ref d) .none)) Q E s
  refine wpAny_bind (wpAny_contains_slot hm.typeIs PySem.F.slot_dict_contains ?_)
  refine call_meetsIn PySem.F.slot_dict_contains hm.typeIs PySem.F.entry_dict_contains (PySem.F.args_dict_contains_2 _ _) (S := fun A' R s' => A' = A ∧ s' = s ∧ R (.ok (.ret (.bool false))) { s with toks := s.toks + 1 }) (.of_wp fun A' R s' hS => ?_) ⟨rfl, rfl, wpAny_truthy_bool (wpAny_pure h)⟩
  obtain ⟨rfl, rfl, hq⟩ := hS
  show wpAny _ _ (dictGet d .none >>= _) _ _ _
  refine wpAny_bind (none_get hu hm ?_)
  show wpAny _ _ (Builtin.Dict.pendingKey? d .none >>= _) _ _ _
  exact wpAny_bind (wpAny_pendingKey_other hd (wpAny_pure ⟨_, rfl, hq⟩))
theorem none_getm {Q : Value → Shared → Prop} (hu : A.in1.units + 8 < cLine) (hd : (d == sysModules) = false) (hm : s.heap.DictOfH (nestedKind prog w) d xs) (h : Q .none { s with toks := s.toks + 1 }) :
    wpAny (model prog w) A (call (.builtin "dict.get") [.ref d, .none]) Q E s := by
  refine call_meetsIn PySem.F.slot_dict_get hm.typeIs PySem.F.entry_dict_get (PySem.F.args_dict_get_2 _ _) (S := fun A' R s' => A' = A ∧ s' = s ∧ R (.ok (.ret .none)) { s with toks := s.toks + 1 }) (.of_wp fun A' R s' hS => ?_) ⟨rfl, rfl, h⟩
  obtain ⟨rfl, rfl, hq⟩ := hS
  show wpAny _ _ (dictGet d .none >>= _) _ _ _
  refine wpAny_bind (none_get hu hm ?_)
  show wpAny _ _ (Builtin.Dict.missed d .none >>= _) _ _ _
  exact wpAny_bind (wpAny_missed_other hd (wpAny_pure ⟨.none, rfl, hq⟩))
end
/-! ## the dict of a memo -/
/-- an entry: the key, where its tuple stands, the number -/
abbrev Ent := NestedKey × Addr × Int
def EntR (e : Ent) (x : NestedKey × Addr × Value) : Prop := x.1 = e.1 ∧ x.2.1 = e.2.1 ∧ ∃ t, x.2.2 = .int e.2.2 t
def memoD (P : Program) (w : World) (d : Addr) (l : List Ent) : HO := .ext fun h => (d == sysModules) = false ∧ l.length ≤ 1000 ∧ ∃ xs, Paired EntR l xs ∧
  ∃ o es ep, h.get? d = some o ∧ o.ExactDict ∧ o.data = .dict es ep ∧ es.toList = xs.map (entryOfKey (nestedKind P w)) ∧ (xs.map (·.1)).Nodup
/-- the tuple of a key -/
inductive KeyAt (H : Hp) : NestedKey → Addr → Prop
  | its {a : Addr} {n : Int} : H a = some (.tup [.str "itself", .int n]) → KeyAt H (.tup [.text "itself", .num n]) a
  | mks {a q : Addr} {z : Str} {ns : List Int} : H a = some (.tup [.str "marks", .str z, .ref q]) → H q = some (.tup (ns.map V.int)) → KeyAt H (.tup [.text "marks", .text z, .tup (ns.map .num)]) a
def KeysAt (H : Hp) (l : List Ent) : Prop := ∀ e ∈ l, KeyAt H e.1 e.2.1
theorem KeyAt.keeps {H H' : Hp} {k : NestedKey} {a : Addr} (h : KeyAt H k a) (t : ∀ b xs, H b = some (.tup xs) → H' b = some (.tup xs)) : KeyAt H' k a := by
  cases h with
  | its e => exact .its (t _ _ e)
  | mks e e2 => exact .mks (t _ _ e) (t _ _ e2)
theorem KeysAt.keeps {H H' : Hp} {l : List Ent} (h : KeysAt H l) (t : ∀ b xs, H b = some (.tup xs) → H' b = some (.tup xs)) : KeysAt H' l := fun e he => (h e he).keeps t
theorem nums_all {h : Heap} : ∀ {ns : List Int} {us : List Value}, Vals (ns.map V.int) us → NestedAll h (ns.map NestedKey.num) us
  | [], _, .nil => .nil
  | n :: ns, _, .cons r t => by
    obtain ⟨k, rfl⟩ := r
    exact .cons (.int n k) (nums_all t)
theorem nums_flat : ∀ ns : List Int, NestedKey.depthAll (ns.map NestedKey.num) = 0
  | [] => rfl
  | n :: ns => by
    show max 0 (NestedKey.depthAll (ns.map NestedKey.num)) = 0
    rw [nums_flat ns]
    rfl
theorem key_is {P : Program} {w : World} {H : Hp} {h : Heap} {k : NestedKey} {a : Addr} (ok : HOk P w H h) (x : KeyAt H k a) : (nestedKind P w).is h k a := by
  cases x with
  | its e =>
    obtain ⟨_, its, r, o, h1, h2, n, h3⟩ := (show ObjOk P w H h a (.tup _) from ok a _ e)
    cases r with
    | cons r1 r =>
      cases r with
      | cons r2 r =>
        cases r
        obtain ⟨t1, rfl⟩ := r1
        obtain ⟨t2, rfl⟩ := r2
        exact ⟨.tup h1 h2 h3 (.cons (.text _ _) (.cons (.int _ _) .nil)), by show 0 + 1 ≤ 8; decide⟩
  | @mks _ q z ns e e2 =>
    obtain ⟨_, its, r, o, h1, h2, n, h3⟩ := (show ObjOk P w H h a (.tup _) from ok a _ e)
    obtain ⟨_, jts, rr, o2, g1, g2, n2, g3⟩ := (show ObjOk P w H h q (.tup _) from ok q _ e2)
    cases r with
    | cons r1 r =>
      cases r with
      | cons r2 r =>
        cases r with
        | cons r3 r =>
          cases r
          obtain ⟨t1, rfl⟩ := r1
          obtain ⟨t2, rfl⟩ := r2
          cases r3
          refine ⟨.tup h1 h2 h3 (.cons (.text _ _) (.cons (.text _ _) (.cons (.tup g1 g2 g3 (nums_all rr)) .nil))), ?_⟩
          show max 0 (max 0 (max (NestedKey.depthAll (ns.map NestedKey.num) + 1) 0)) + 1 ≤ 8
          rw [nums_flat]
          decide
theorem memo_at {P : Program} {w : World} {H : Hp} {h : Heap} {d : Addr} {l : List Ent} (ok : HOk P w H h) (e : H d = some (memoD P w d l)) (hk : KeysAt H l) :
    ∃ xs, (d == sysModules) = false ∧ l.length ≤ 1000 ∧ Paired EntR l xs ∧ h.DictOfH (nestedKind P w) d xs := by
  obtain ⟨⟨hd, hl, xs, r, o, es, ep, h1, h2, h3, h4, h5⟩, _⟩ := (show ObjOk P w H h d (memoD P w d l) from ok d _ e)
  refine ⟨xs, hd, hl, r, o, es, ep, h1, h2, h3, h4, ?_, h5⟩
  have all : ∀ {l : List Ent} {m : List (NestedKey × Addr × Value)}, Paired EntR l m → KeysAt H l → ∀ x ∈ m, (nestedKind P w).is h x.1 x.2.1 := by
    intro l m q
    induction q with
    | nil => intro _ x hx; exact nomatch hx
    | @cons p q ps qs hq t ih =>
      intro hk x hx
      rcases List.mem_cons.mp hx with e | hx
      · subst e
        rw [hq.1, hq.2.1]
        exact key_is ok (hk p List.mem_cons_self)
      · exact ih (fun e he => hk e (List.mem_cons_of_mem _ he)) x hx
  exact all r hk
theorem memo_new {P : Program} {w : World} {H' : Hp} {h' : Heap} {d : Addr} {l : List Ent} {xs : List (NestedKey × Addr × Value)} (hd : (d == sysModules) = false) (hl : l.length ≤ 1000) (r : Paired EntR l xs)
    (dd : h'.DictOfH (nestedKind P w) d xs) : ObjOk P w H' h' d (memoD P w d l) := by
  obtain ⟨o, es, ep, h1, h2, h3, h4, _, h5⟩ := dd
  refine ⟨⟨hd, hl, xs, r, o, es, ep, h1, h2, h3, h4, h5⟩, ⟨o, h1⟩, ?_⟩
  rintro g1 g2 ⟨hd, hl, xs, r, o, es, ep, h1, h2, h3, h4, h5⟩ k
  exact ⟨hd, hl, xs, r, o, es, ep, k o h1, h2, h3, h4, h5⟩
/-- the number that is kept for a key -/
def findE : List Ent → NestedKey → Option Int
  | [], _ => none
  | e :: l, k => if e.1 = k then some e.2.2 else findE l k
theorem find_at {l : List Ent} {xs : List (NestedKey × Addr × Value)} (r : Paired EntR l xs) (k : NestedKey) :
    (∃ n t, findE l k = some n ∧ (atKey xs k).map (·.2) = some (.int n t)) ∨ (findE l k = none ∧ atKey xs k = none) := by
  induction r with
  | nil => exact .inr ⟨rfl, rfl⟩
  | @cons p q ps qs hq t ih =>
    obtain ⟨e1, e2, t, e3⟩ := hq
    by_cases h : p.1 = k
    · refine .inl ⟨p.2.2, t, by simp [findE, h], ?_⟩
      simp [atKey, e1, h, e3]
    · have h1 : findE (p :: ps) k = findE ps k := by simp [findE, h]
      have h2 : atKey (q :: qs) k = atKey qs k := by simp [atKey, e1, h]
      rw [h1, h2]
      exact ih
def V.ofN : Option Int → V
  | some n => .int n
  | none => .non
end Wk
set_option Elab.async false
set_option linter.all false
set_option maxRecDepth 100000
set_option maxHeartbeats 4000000
/-! What is asked of the dict of a memo. -/
namespace Wk
open PySem PySem.Spec PyProof.Rows L2
theorem find_isSome {l : List Ent} {xs : List (NestedKey × Addr × Value)} (r : Paired EntR l xs) (k : NestedKey) : (atKey xs k).isSome = (findE l k).isSome := by
  rcases find_at r k with ⟨n, t, e1, e2⟩ | ⟨e1, e2⟩
  · rw [e1]
    cases h : atKey xs k with
    | none => rw [h] at e2; cases e2
    | some p => rfl
  · rw [e1, e2]
    rfl
section
variable {X : Cx}
/-- {} -/
def tMNew (P : Program) (w : World) : TE := fun _ H Q => ∀ p, H p = none → Q (.ref p) (upd H p (memoD P w p []))
theorem pe_mnew {pos : Pos} : PE X (.Dict [] [] pos) (tMNew X.prog X.w) := ⟨fun pins s σ H Q I h =>
  wpAny_Dict_empty ⟨.ref s.heap.objs.size, _, I.laid (a := s.heap.objs.size) (o := memoD X.prog X.w s.heap.objs.size []) (t' := s.toks) (fun _ _ q => Heap.get?_push_of_some _ q) (Nat.le_refl _)
    (memo_new (beq_eq_false_iff_ne.mpr (Ne.symm (Nat.ne_of_lt I.big))) (Nat.zero_le _) .nil (Heap.DictOfH.new _)), rfl, h _ (I.hok.fresh (Nat.le_refl _))⟩⟩
/-- the value asked for: None, or a key's tuple -/
def AskedAs (H : Hp) (y : V) (l : List Ent) (r : Option Int) : Prop := (y = .non ∧ r = none) ∨ ∃ k b, y = .ref b ∧ KeyAt H k b ∧ r = findE l k
/-- y in d -/
def rMIn (P : Program) (w : World) : R2 := fun y x H Q => ∃ a l r, x = .ref a ∧ H a = some (memoD P w a l) ∧ KeysAt H l ∧ AskedAs H y l r ∧ Q (.bl r.isSome) H
theorem op_min (hu : X.A.units + 10 < cLine) : OpR X (compareOp .In) (rMIn X.prog X.w) := by
  rintro pins s σ H y x v u Q I ry rx ⟨a, l, r, rfl, ha, hk, as, q⟩
  cases rx
  obtain ⟨xs, hd, hl, rel, dd⟩ := memo_at I.hok ha hk
  rcases as with ⟨rfl, rfl⟩ | ⟨k, b, rfl, kb, rfl⟩
  · cases ry
    exact none_in (show X.A.units + 1 + 8 < cLine by omega) hd dd ⟨.bl false, H, I.tok _, rfl, q⟩
  · cases ry
    refine wpAny_in_heap (show X.A.units + 1 + 8 < cLine by omega) (key_is I.hok kb) hd dd ?_
    rw [find_isSome rel k]
    exact ⟨.bl _, H, I.tok _, rfl, q⟩
/-- y not in d -/
def rMNotIn (P : Program) (w : World) : R2 := fun y x H Q => ∃ a l k b, x = .ref a ∧ H a = some (memoD P w a l) ∧ KeysAt H l ∧ y = .ref b ∧ KeyAt H k b ∧ Q (.bl (!(findE l k).isSome)) H
theorem op_mnotin (hu : X.A.units + 10 < cLine) : OpR X (compareOp .NotIn) (rMNotIn X.prog X.w) := by
  rintro pins s σ H y x v u Q I ry rx ⟨a, l, k, b, rfl, ha, hk, rfl, kb, q⟩
  cases rx
  cases ry
  obtain ⟨xs, hd, hl, rel, dd⟩ := memo_at I.hok ha hk
  refine wpAny_notIn_heap (show X.A.units + 1 + 8 < cLine by omega) (key_is I.hok kb) hd dd ?_
  rw [find_isSome rel k]
  exact ⟨.bl _, H, I.tok _, rfl, q⟩
/-- d.get(y) -/
def tyMemo (P : Program) (w : World) (x : V) (H : Hp) : Prop := ∃ a l, x = .ref a ∧ H a = some (memoD P w a l)
theorem ty_memo : TyOk X "dict" (tyMemo X.prog X.w) := by
  intro pins σ H s x v I r ty
  obtain ⟨a, l, rfl, ha⟩ := ty
  cases r
  obtain ⟨⟨hd, hl, xs, r, o, es, ep, h1, h2, h3, h4, h5⟩, _⟩ := (show ObjOk X.prog X.w H s.heap a (memoD X.prog X.w a l) from I.hok a _ ha)
  refine ⟨⟨_, h1, h2.1⟩, fun b e => ?_⟩
  cases e
  exact ⟨_, h1, h2.2.1⟩
def rMGet (P : Program) (w : World) : V → List V → Hp → VK → Prop := fun x ys H Q => ∃ a l y r, x = .ref a ∧ ys = [y] ∧ H a = some (memoD P w a l) ∧ KeysAt H l ∧ AskedAs H y l r ∧ Q (V.ofN r) H
theorem mt_mget (hu : X.A.units + 10 < cLine) : MtR X "dict.get" (rMGet X.prog X.w) := by
  intro pins s σ H x ys v us Q I rx rys h
  obtain ⟨a, l, y, r, rfl, rfl, ha, hk, as, q⟩ := h
  cases rx
  obtain ⟨u, rfl, ry⟩ := vals1 rys
  obtain ⟨xs, hd, hl, rel, dd⟩ := memo_at I.hok ha hk
  rcases as with ⟨rfl, rfl⟩ | ⟨k, b, rfl, kb, rfl⟩
  · cases ry
    exact none_getm (show X.A.units + 1 + 8 < cLine by omega) hd dd ⟨.non, H, I.tok _, rfl, q⟩
  · cases ry
    refine call_meetsIn PySem.F.slot_dict_get dd.typeIs PySem.F.entry_dict_get (PySem.F.args_dict_get_2 _ _) (meetsH_dict_get (nestedKind X.prog X.w) a b hd) ⟨(show X.A.units + 1 + 8 < cLine by omega), k, xs, key_is I.hok kb, dd, ?_⟩
    rcases find_at rel k with ⟨n, t, e1, e2⟩ | ⟨e1, e2⟩
    · rw [e2]
      rw [e1] at q
      exact ⟨.int n, H, I.tok _, ⟨t, rfl⟩, q⟩
    · rw [e2]
      rw [e1] at q
      exact ⟨.non, H, I.tok _, rfl, q⟩
/-- d[y] = v, where y is new -/
def sMPut (P : Program) (w : World) (td ty tv : TE) : TS := fun D σ H => tv σ H fun v H1 => td σ H1 fun x H2 => ty σ H2 fun y H3 => ∃ a l k b n, x = .ref a ∧ v = .int n ∧ H3 a = some (memoD P w a l) ∧ KeysAt H3 l ∧ l.length < 1000 ∧
  y = .ref b ∧ KeyAt H3 k b ∧ findE l k = none ∧ D.nx σ (upd H3 a (memoD P w a (l ++ [(k, b, n)])))
theorem ps_mput {o i value : Expr} {pos pos' : Pos} {td ty tv : TE} (hu : X.A.units + 10 < cLine) (ho : PE X o td) (hi : PE X i ty) (hv : PE X value tv) (hs : swapsWith value (some (.Subscript o i pos')) pos.line X.env = pure false) :
    PS X (.Assign [.Subscript o i pos'] value pos) (sMPut X.prog X.w td ty tv) := by
  refine ⟨fun pins s σ H D I h => ?_⟩
  refine wpAny_Assign_Subscript (thn (hv.run pins s σ H _ I h) fun r s1 ⟨v, H1, I1, rv, q1⟩ => thn (ho.run pins s1 σ H1 _ I1 q1) fun u s2 ⟨x, H2, I2, rx, q2⟩ => thn (hi.run pins s2 σ H2 _ I2 q2) fun iv s3 ⟨y, H3, I3, ry, a, l, k, b, n, ex, ev, ha, hk, hl, ey, kb, no, q3⟩ => ?_) hs
  subst ex ev ey
  cases rx
  cases ry
  obtain ⟨t, rfl⟩ := rv
  obtain ⟨xs, hd, _, rel, dd⟩ := memo_at I3.hok ha hk
  have no2 : atKey xs k = none := by
    rcases find_at rel k with ⟨n, t, e1, e2⟩ | ⟨e1, e2⟩
    · rw [no] at e1; cases e1
    · exact e2
  have hz : xs.length ≤ sizeLine := by
    rw [← Paired.length rel, sizeLine_eq]
    omega
  refine wpAny_setItem_heap (hsz := hz) (show X.A.units + 1 + 8 < cLine by omega) (key_is I3.hok kb) dd fun h' dd' hs => ?_
  rw [storedH_new no2] at dd'
  have he : ∃ q, h'.get? a = some q := let ⟨q, _, _, hq, _⟩ := dd'; ⟨q, hq⟩
  exact ⟨σ, _, d_write I3 (by rw [ha]; exact True.intro) hs he (memo_new hd (by rw [List.length_append]; show l.length + 1 ≤ 1000; omega) (Paired.snoc rel ⟨rfl, rfl, t, rfl⟩) dd'), q3⟩
/-- len(d) -/
def rMLen (P : Program) (w : World) : List V → Hp → VK → Prop := fun xs H Q => ∃ a l, xs = [.ref a] ∧ H a = some (memoD P w a l) ∧ KeysAt H l ∧ Q (.int ((l.length : Nat) : Int)) H
theorem call_mlen : CallR X (.builtin "len") (rMLen X.prog X.w) := by
  intro pins s σ H xs us Q I r h
  obtain ⟨a, l, rfl, ha, hk, q⟩ := h
  obtain ⟨u, rfl, rx⟩ := vals1 r
  cases rx
  obtain ⟨ys, hd, hl, rel, dd⟩ := memo_at I.hok ha hk
  have e := Paired.length rel
  refine call_len_dictH hd dd (by rw [← e]; omega) ?_
  rw [← e]
  exact ⟨.int ((l.length : Nat) : Int), H, I.tok _, ⟨_, rfl⟩, q⟩
/-- d.items() -/
def rMItems (P : Program) (w : World) : V → List V → Hp → VK → Prop := fun x xs H Q => ∃ a l, x = .ref a ∧ xs = [] ∧ H a = some (memoD P w a l) ∧ ∀ p, H p = none → Q (.ref p) (upd H p (DX.itemsO p a))
theorem mt_mitems : MtR X "dict.items" (rMItems X.prog X.w) := by
  intro pins s σ H x xs v us Q I rx rxs h
  obtain ⟨a, l, rfl, rfl, ha, q⟩ := h
  cases rx
  cases rxs
  obtain ⟨⟨hd, hl, xs, r, o, es, ep, h1, h2, h3, h4, h5⟩, _⟩ := (show ObjOk X.prog X.w H s.heap a (memoD X.prog X.w a l) from I.hok a _ ha)
  refine DT.callItems (es := es) (ep := ep) hd ⟨o, h1, h2, h3⟩ ?_
  have hf : H s.heap.objs.size = none := I.hok.fresh (Nat.le_refl _)
  exact ⟨.ref s.heap.objs.size, upd H s.heap.objs.size (DX.itemsO s.heap.objs.size a), I.laid (t' := s.toks) (fun b u e => Heap.get?_push_of_some _ e) (Nat.le_refl _) (DX.itemsO_ok (Heap.get?_push_size _ rfl)), rfl, q _ hf⟩
/-- list(d.items()) -/
def rMList (P : Program) (w : World) : List V → Hp → VK → Prop := fun xs H Q => ∃ p a l, xs = [.ref p] ∧ H p = some (DX.itemsO p a) ∧ H a = some (memoD P w a l) ∧ KeysAt H l ∧
  ∀ (H2 : Hp) (L : Addr) (bs : List Addr), (∀ b o, H b = some o → H2 b = some o) → H L = none → (∀ b ∈ bs, H b = none) → bs.length = l.length → H2 L = some (.lst (bs.map V.ref)) →
    (∀ (j : Nat) (b : Addr) (e : Ent), bs[j]? = some b → l[j]? = some e → H2 b = some (.tup [.ref e.2.1, .int e.2.2])) → Q (.ref L) H2
theorem call_mlist (hc : X.calm = true) : CallR X (.type "list") (rMList X.prog X.w) := by
  intro pins s σ H xs us Q I r h
  obtain ⟨p, a, l, rfl, hp, ha, hk, q⟩ := h
  obtain rfl := Vals.ref1 r
  have view : s.heap.IsItemsView p a := (show ObjOk X.prog X.w H s.heap p (DX.itemsO p a) from I.hok p _ hp).1
  obtain ⟨xs', hd, hl, rel, o, es, ep, ho, hx, hdat, hes, his, hn⟩ := memo_at I.hok ha hk
  have l1 := Paired.length rel
  have l2 : es.size = xs'.length := size_of_entries hes
  have hh : X.A.handled = none := I.ok.hd hc
  refine PySem.W.dil_call (es := es) (ep := ep) hh view ⟨o, ho, hx, hdat⟩ (by rw [sizeLine_eq]; omega) fun h' tk acc c as hkp hS hla hG hacc => ?_
  have nd : as.Nodup := List.Pairwise.imp (fun h => Nat.ne_of_lt h) hG.rise
  have pr : ∀ (j : Nat) (b : Addr), as[j]? = some b → ∃ (e : Ent) (t : Tok), l[j]? = some e ∧ h'.get? b = some { cls := .type "tuple", data := .seq #[Value.ref e.2.1, Value.int e.2.2 t] } := by
    intro j b hj
    obtain ⟨hje, hg⟩ := hG.pairs j b hj
    have he : es[j]? = some es[j] := Array.getElem?_eq_getElem hje
    rw [entry_at hes j] at he
    cases hxj : xs'[j]? with
    | none =>
      rw [hxj] at he
      cases he
    | some x =>
      rw [hxj] at he
      have een : entryOfKey (nestedKind X.prog X.w) x = es[j] := Option.some.inj he
      obtain ⟨e0, he0, r1, r2, t, r3⟩ := DX.pget rel hxj
      refine ⟨e0, t, he0, ?_⟩
      rw [hg, ← een]
      show some _ = some _
      rw [← r2, ← r3]
      rfl
  have hn0 : H s.heap.objs.size = none := I.hok.fresh (Nat.le_refl _)
  have I1 : Inv X pins σ H { s with heap := h', toks := tk } := I.kept (t' := tk) hkp
  have hlen : (as.map V.ref).length ≤ sizeLine := by
    rw [List.length_map, sizeLine_eq]
    omega
  have rv : Vals (as.map V.ref) acc.toList := by
    rw [hacc]
    exact vals_maps (fun z : Addr => V.ref z) (fun z => Value.ref z) as fun _ _ => rfl
  have I2 : Inv X pins σ (upd H s.heap.objs.size (.lst (as.map V.ref))) { s with heap := h', toks := tk } :=
    I1.take (h' := h') (t' := tk) (fun b ob _ e => e) (I.fpOk (Nat.le_refl _) hn0) ⟨hlen, acc.toList, c, rv, by simpa using hS⟩
  obtain ⟨H2, I3, g, qt⟩ := DX.takeT (P := fun b vs => ∃ (j : Nat) (e : Ent), as[j]? = some b ∧ l[j]? = some e ∧ vs = [.ref e.2.1, .int e.2.2]) I as _ I2 nd fun b hb => by
    obtain ⟨j, hj⟩ := List.mem_iff_getElem?.mp hb
    obtain ⟨e, t, he, hg⟩ := pr j b hj
    have hbl : s.heap.objs.size < b := hG.above b hb
    refine ⟨Nat.le_of_lt hbl, ?_, [.ref e.2.1, .int e.2.2], ⟨j, e, hj, he, rfl⟩, fun H3 => ⟨(by rw [sizeLine_eq]; show 2 ≤ 16777216; omega), [Value.ref e.2.1, Value.int e.2.2 t], .cons rfl (.cons ⟨t, rfl⟩ .nil), ⟨_, hg, rfl, 0, rfl⟩⟩⟩
    rw [upd_ne (Nat.ne_of_gt hbl)]
    exact I.hok.fresh (Nat.le_of_lt hbl)
  have gr : ∀ b o, H b = some o → H2 b = some o := fun b o e => g b o (by rw [upd_ne (ne_of_none e hn0)]; exact e)
  refine ⟨.ref s.heap.objs.size, H2, I3, rfl, q H2 s.heap.objs.size as gr hn0 (fun b hb => I.hok.fresh (Nat.le_of_lt (hG.above b hb))) (by omega) (g _ _ upd_same) fun j b e hj he => ?_⟩
  obtain ⟨vs, ⟨j', e', j1, j2, ev⟩, hH⟩ := qt b (List.mem_of_getElem? hj)
  have eij : j = j' := (List.getElem?_inj (List.getElem?_eq_some_iff.mp hj).1 nd).mp (hj.trans j1.symm)
  subst eij
  rw [he] at j2
  cases j2
  rw [ev] at hH
  exact hH
end
end Wk
set_option Elab.async false
set_option linter.all false
set_option maxRecDepth 100000
set_option maxHeartbeats 4000000
/-! Things of a class of one's own: len, in, == and != by identity. -/
namespace Wk
open PySem PySem.Spec PyProof.Rows L2
open PySem.W (InstAt Looks findIn isFn mroIn notFirst)
section
variable {prog : Program} {w : World} {A : Around} {E : Value → Shared → Prop} {s : Shared} {K : PySem.W.Frag} {x y C : Addr} {ox oy : Obj} {od odo : Option Obj} {b : Value}
theorem bound_blt {id : String} {name : Str} {T : String} {args : List Value} {Q : Option Value → Shared → Prop} (X : K.In s.heap) (I : InstAt s.heap x ox C od) (S : Slot T name id) (hs : findIn K (.ref C) name = some (some (.builtin id)))
    (h : wpAny (model prog w) A (call (.builtin id) (.ref x :: args)) (fun v => Q (some v)) E s) : wpAny (model prog w) A (callSpecialIfBound? (.ref x) name args) Q E s := by
  unfold callSpecialIfBound? bindSpecialIfBound?
  apply wpAny_holding
  apply wpAny_bind
  apply wpAny_bind
  apply wpAny_bind
  apply I.type.here
  apply (PySem.W.looks_findIn X hs).here
  apply wpAny_bind
  refine wpAny_askSetting (wpAny_ite ?_)
  have run : wpAny (model prog w) A (call (.builtin id) ([.ref x] ++ args) >>= fun v => pure (some v)) Q E s := wpAny_bind (wpAny_mono h (fun _ _ q => wpAny_pure q) fun _ _ e => e)
  split
  · exact wpAny_bind (wpAny_of_eq (S.bind _) (wpAny_pure run))
  · exact wpAny_tryCatch (wpAny_bind (wpAny_of_eq (S.bind _) (wpAny_pure run)))
theorem inst_tup (I : InstAt s.heap x ox C od) : ox.cls ≠ .type "tuple" := by
  rw [I.cls]
  intro z
  cases z
/-- object.__eq__ -/
theorem eq_obj0 {Q : Value → Shared → Prop} (X : K.In s.heap) (I : InstAt s.heap x ox C od) (hm : mroIn K C (.type "object") = some true) (hq : Q (.bool true) s) :
    wpAny (model prog w) A (call (.builtin "object.__eq__") [.ref x, .ref x]) Q E s := by
  refine wpAny_call (codeAny_call_builtin F.cmp_object.eq.plain F.cmpEntry_eq (PySem.W.check_slot F.cmpKind_eq F.cmpSplit_eq (I.type.andThen (PySem.W.looks_mroIn X hm)) (F.cmpArgs_eq _ _) ?_))
  unfold Builtin.«object.__eq__»
  repeat (first | with_reducible refine wpAny_isSame_ref_self ?_ | wp_step)
  exact hq
theorem eq_obj1 {Q : Value → Shared → Prop} (X : K.In s.heap) (I : InstAt s.heap x ox C od) (J : s.heap.get? y = some oy) (hne : x ≠ y) (hm : mroIn K C (.type "object") = some true) (hq : Q .notImplemented s) :
    wpAny (model prog w) A (call (.builtin "object.__eq__") [.ref x, .ref y]) Q E s := by
  refine wpAny_call (codeAny_call_builtin F.cmp_object.eq.plain F.cmpEntry_eq (PySem.W.check_slot F.cmpKind_eq F.cmpSplit_eq (I.type.andThen (PySem.W.looks_mroIn X hm)) (F.cmpArgs_eq _ _) ?_))
  unfold Builtin.«object.__eq__»
  repeat (first | with_reducible refine wpAny_isSame_ref_other hne I.at_ J (inst_tup I) ?_ | wp_step)
  exact hq
/-- object.__ne__ of two things -/
theorem ne_obj {Q : Value → Shared → Prop} (hu : A.in1.units < cLine) (X : K.In s.heap) (I : InstAt s.heap x ox C od) (J : s.heap.get? y = some oy) (hm : mroIn K C (.type "object") = some true) (he : findIn K (.ref C) "__eq__" = some (some (.builtin "object.__eq__")))
    (hne : x ≠ y) (hq : Q .notImplemented s) : wpAny (model prog w) A (call (.builtin "object.__ne__") [.ref x, .ref y]) Q E s := by
  refine wpAny_call (codeAny_call_builtin F.cmp_object.ne.plain F.cmpEntry_ne (PySem.W.check_slot F.cmpKind_ne F.cmpSplit_ne (I.type.andThen (PySem.W.looks_mroIn X hm)) (F.cmpArgs_ne _ _) ?_))
  unfold Builtin.«object.__ne__»
  have one : wpAny (model prog w) A.in1 (callSpecialIfBound? (.ref x) "__eq__" [.ref y]) (fun r s' => r = some .notImplemented ∧ s' = s) (fun z s' => E z s') s :=
    bound_blt X I F.cmp_object.eq he (eq_obj1 X I J hne hm ⟨rfl, rfl⟩)
  generalize callSpecialIfBound? = CS at one ⊢
  repeat (first | with_reducible refine wpAny_cRoomFor hu ?_ | with_reducible refine wpAny_mono one (fun r s1 got => ?_) (fun _ _ e => e) | wp_step)
  obtain ⟨rfl, rfl⟩ := got
  repeat wp_step
  exact hq
theorem ne_two (hu : A.units + 1 < cLine) (X : K.In s.heap) (I : InstAt s.heap x ox C od) (J : InstAt s.heap y oy C odo) (hm : mroIn K C (.type "object") = some true) (he : findIn K (.ref C) "__eq__" = some (some (.builtin "object.__eq__")))
    (hn : findIn K (.ref C) "__ne__" = some (some (.builtin "object.__ne__"))) (hne : x ≠ y) {Q : Value → Shared → Prop} (h : Q (.bool true) s) : wpAny (model prog w) A (richCompare .NotEq (.ref x) (.ref y)) Q E s := by
  have one : wpAny (model prog w) A (tryCompare (.ref x) "__ne__" (.ref y)) (fun r s' => r = none ∧ s' = s) E s := by
    unfold tryCompare
    exact wpAny_bind (bound_blt X I F.cmp_object.ne hn (ne_obj hu X I J.at_ hm he hne (wpAny_pure ⟨rfl, rfl⟩)))
  have two : wpAny (model prog w) A (tryCompare (.ref y) "__ne__" (.ref x)) (fun r s' => r = none ∧ s' = s) E s := by
    unfold tryCompare
    exact wpAny_bind (bound_blt X J F.cmp_object.ne hn (ne_obj hu X J I.at_ hm he (Ne.symm hne) (wpAny_pure ⟨rfl, rfl⟩)))
  unfold richCompare
  simp only [oneThing_ref, cmpInfo_NotEq]
  refine wpAny_holding (wpAny_bind (wpAny_cRoomFor (by omega) ?_))
  refine wpAny_bind (I.type.here ?_)
  refine wpAny_bind (J.type.here ?_)
  rw [if_neg (by simp)]
  refine wpAny_bind (wpAny_pure ?_)
  simp only [Bool.false_eq_true, if_false, Bool.not_false, if_true]
  refine wpAny_bind (m := tryCompare (.ref x) _ (.ref y)) (wpAny_mono one (fun r s1 z => ?_) fun _ _ e => e)
  obtain ⟨z1, z2⟩ := z
  subst z1 z2
  refine wpAny_bind (m := tryCompare (.ref y) _ (.ref x)) (wpAny_mono two (fun r s2 z => ?_) fun _ _ e => e)
  obtain ⟨z1, z2⟩ := z
  subst z1 z2
  exact wpAny_bind (wpAny_rule (wpAny_bind (wpAny_isSame_ref_other hne I.at_ J.at_ (inst_tup I) (wpAny_pure h))))
theorem eq_one (hu : A.units + 1 < cLine) (X : K.In s.heap) (I : InstAt s.heap x ox C od) (hm : mroIn K C (.type "object") = some true) (he : findIn K (.ref C) "__eq__" = some (some (.builtin "object.__eq__")))
    {Q : Value → Shared → Prop} (h : Q (.bool true) s) : wpAny (model prog w) A (richCompare .Eq (.ref x) (.ref x)) Q E s := by
  have one : wpAny (model prog w) A (tryCompare (.ref x) "__eq__" (.ref x)) (fun r s' => r = some (.bool true) ∧ s' = s) E s := by
    unfold tryCompare
    exact wpAny_bind (bound_blt X I F.cmp_object.eq he (eq_obj0 X I hm (wpAny_pure ⟨rfl, rfl⟩)))
  unfold richCompare
  simp only [oneThing_ref, cmpInfo_Eq]
  refine wpAny_holding (wpAny_bind (wpAny_cRoomFor (by omega) ?_))
  refine wpAny_bind (I.type.here ?_)
  refine wpAny_bind (I.type.here ?_)
  rw [if_neg (by simp)]
  refine wpAny_bind (wpAny_pure ?_)
  simp only [Bool.false_eq_true, if_false, Bool.not_false, if_true]
  refine wpAny_bind (m := tryCompare (.ref x) _ (.ref x)) (wpAny_mono one (fun r s1 z => ?_) fun _ _ e => e)
  obtain ⟨z1, z2⟩ := z
  subst z1 z2
  exact wpAny_pure h
end
end Wk
set_option Elab.async false
set_option linter.all false
set_option maxRecDepth 100000
set_option maxHeartbeats 4000000
namespace Wk
open PySem PySem.Spec PyProof.Rows L2
open PySem.W (InstAt Looks findIn isFn mroIn notFirst)
/-- a class whose == and != are those of object -/
structure IdEqual (K : PySem.W.Frag) (C : Addr) : Prop where
  top : mroIn K C (.type "object") = some true
  ne : findIn K (.ref C) "__ne__" = some (some (.builtin "object.__ne__"))
  eq : findIn K (.ref C) "__eq__" = some (some (.builtin "object.__eq__"))
section
variable {X : Cx} {CX : CXT} {n : Nat} {C f : Addr} {fd : FuncData} {ps : List Str} {sp : Sp} {E : XK}
theorem inst_of {pins : List (Addr × Obj)} {σ : L2.St} {H : Hp} {s : Shared} {a dx : Addr} {fs : List (Str × V)} (I : Inv X pins σ H s) (ha : H a = some (.ins C dx fs)) : ∃ ox od, InstAt s.heap a ox C od := by
  obtain ⟨mA, J, _⟩ := ins_get I.hok ha
  obtain ⟨od, J, _⟩ := J.look
  exact ⟨_, od, J⟩
/-- x != y, two things -/
def rIdNe (C : Addr) : R2 := fun x y H Q => ∃ a b dx dy fs gs, x = .ref a ∧ y = .ref b ∧ a ≠ b ∧ H a = some (.ins C dx fs) ∧ H b = some (.ins C dy gs) ∧ Q (.bl true) H
theorem op_idNe (hu : X.A.units + 1 < cLine) (O : IdEqual X.K C) : OpR X (compareOp .NotEq) (rIdNe C) := by
  rintro pins s σ H x y v u Q I rx ry ⟨a, b, dx, dy, fs, gs, rfl, rfl, hne, ha, hb, q⟩
  cases rx
  cases ry
  obtain ⟨ox, od, J1⟩ := inst_of I ha
  obtain ⟨oy, od2, J2⟩ := inst_of I hb
  exact ne_two hu I.kIn J1 J2 O.top O.eq O.ne hne ⟨.bl true, H, I, rfl, q⟩
/-- x == x -/
def rIdEq (C : Addr) : R2 := fun x y H Q => ∃ a dx fs, x = .ref a ∧ y = .ref a ∧ H a = some (.ins C dx fs) ∧ Q (.bl true) H
theorem op_idEq (hu : X.A.units + 1 < cLine) (O : IdEqual X.K C) : OpR X (compareOp .Eq) (rIdEq C) := by
  rintro pins s σ H x y v u Q I rx ry ⟨a, dx, fs, rfl, rfl, ha, q⟩
  cases rx
  cases ry
  obtain ⟨ox, od, J1⟩ := inst_of I ha
  exact eq_one hu I.kIn J1 O.top O.eq ⟨.bl true, H, I, rfl, q⟩
theorem run_own {A : Around} {pins : List (Addr × Obj)} {σ : L2.St} {H : Hp} {s : Shared} {Q : VK} {us : List Value} {ys : List V} (F : FnOk X.prog X.w X.K X.mg X.base CX n f fd ps sp) (hb : Binds X.K fd ps []) (hx : Passes CX X E)
    (room : Room n A) (fr : A.frames = X.A.frames) (I : Inv X pins σ H s) (r : Vals ys us) (h : sp ys H Q E) : wpAny (model X.prog X.w) A (call (.ref f) us) (EP X pins σ Q) X.xe s := by
  have lenY : ys.length = ps.length := F.len _ _ _ _ h
  have lenU : us.length = ps.length := by rw [← r.length, lenY]
  have b0 := hb s us I.kIn (by simpa using lenU)
  rw [List.append_nil] at b0
  have e0 : Env0 X.prog X.w X.K X.mg X.base A X.stack s H := { I.env0 with frames := fr.trans I.env0.frames }
  apply wpAny_call
  refine codeAny_mono (F.run A X.stack s H ⟨us, []⟩ us ys Q E room e0 b0 r h) ?_
  intro res s2 got
  rcases res with e | (_ | _ | _ | u)
  · exact hx pins σ H s e s2 I got
  · exact got.elim
  · exact got.elim
  · exact got.elim
  · exact I.after got
/-- len(x), by the class's own __len__ -/
def rOwnLen (C : Addr) (sp : Sp) (E : XK) : List V → Hp → VK → Prop := fun xs H Q => ∃ a dx fs, xs = [.ref a] ∧ H a = some (.ins C dx fs) ∧ sp [.ref a] H (fun v H' => ∃ m : Int, v = .int m ∧ 0 ≤ m ∧ m < 2 ^ 63 ∧ Q (.int m) H') E
theorem call_ownLen (F : FnOk X.prog X.w X.K X.mg X.base CX n f fd ps sp) (hb : Binds X.K fd ps []) (hx : Passes CX X E) (hs : findIn X.K (.ref C) "__len__" = some (some (.ref f))) (hf : isFn X.K (.ref f) = true) (room : Room (n + 1) X.A) :
    CallR X (.builtin "len") (rOwnLen C sp E) := by
  intro pins s σ H xs us Q I r h
  obtain ⟨a, dx, fs, rfl, ha, p⟩ := h
  obtain ⟨u, rfl, rx⟩ := vals1 r
  cases rx
  obtain ⟨ox, od, J⟩ := inst_of I ha
  obtain ⟨m, fr⟩ := I.fr
  refine PySem.W.len_K fr I.ok.mod.kin J hs hf ?_
  refine wpAny_mono (run_own F hb hx room.in1 rfl I (.cons (show L2.RelV (.ref a) (.ref a) from rfl) .nil) p) ?_ fun _ _ e => e
  rintro z s2 ⟨v, H2, I2, rz, m, rfl, m0, m1, q⟩
  obtain ⟨t, rfl⟩ := rz
  exact ⟨⟨m0, m1⟩, .int m, H2, I2.tok _, ⟨_, rfl⟩, q⟩
/-- y in x, by the class's own __contains__ -/
def rOwnIn (C : Addr) (sp : Sp) (E : XK) : R2 := fun y x H Q => ∃ a dx fs, x = .ref a ∧ H a = some (.ins C dx fs) ∧ sp [.ref a, y] H (fun v H' => ∃ c : Bool, v = .bl c ∧ Q (.bl c) H') E
theorem op_ownIn (F : FnOk X.prog X.w X.K X.mg X.base CX n f fd ps sp) (hb : Binds X.K fd ps []) (hx : Passes CX X E) (hs : findIn X.K (.ref C) "__contains__" = some (some (.ref f))) (hf : isFn X.K (.ref f) = true) (room : Room n X.A) :
    OpR X (compareOp .In) (rOwnIn C sp E) := by
  rintro pins s σ H y x v u Q I ry rx ⟨a, dx, fs, rfl, ha, p⟩
  cases rx
  obtain ⟨ox, od, J⟩ := inst_of I ha
  obtain ⟨m, fr⟩ := I.fr
  refine PySem.W.in_K fr I.ok.mod.kin J hs hf ?_
  refine wpAny_mono (run_own F hb hx room rfl I (ys := [.ref a, y]) (.cons (show L2.RelV (.ref a) (.ref a) from rfl) (.cons ry .nil)) p) ?_ fun _ _ e => e
  rintro z s2 ⟨v, H2, I2, rz, c, rfl, q⟩
  obtain rfl := rz
  exact wpAny_truthy_bool ⟨.bl c, H2, I2, rfl, q⟩
end
/-! ## == of a key's tuple and of None -/
section
variable {X : Cx}
/-- a tuple that is a key, held against a key or None -/
def rKeyEq : R2 := fun x y H Q => ∃ k a, x = .ref a ∧ KeyAt H k a ∧ ((y = .non ∧ Q (.bl false) H) ∨ ∃ k2 b, y = .ref b ∧ KeyAt H k2 b ∧ Q (.bl (decide (k = k2))) H)
theorem is_tup {h : Heap} {k : NestedKey} {a : Addr} {P : Program} {w : World} (x : (nestedKind P w).is h k a) : ∃ its, h.IsTuple a its := by
  obtain ⟨x, _⟩ := x
  cases x with
  | tup h1 h2 h3 _ => exact ⟨_, _, h1, h2, _, h3⟩
end
end Wk
set_option Elab.async false
set_option linter.all false
set_option maxRecDepth 100000
set_option maxHeartbeats 4000000
namespace Wh
open PySem PySem.Spec PyProof.Rows L2
open Wp hiding Same.refl Same.trans same_new boot_all run_own boot_repr
open W8 (Ev Rp Kp Mono same_new take_snoc rW rB mW mB ev_words ev_words_eq ev_bools_eq lc_sieve)
/-! ## a house while the pen writes -/
theorem isK_cells {x : Str} (h : IsK x) : x ≠ "cells" := fun e => by
  have := h.ok
  rw [e] at this
  exact absurd this (by decide +kernel)
section
variable {K : PySem.W.Frag} {p c : Addr} {ns : List Int} {H H' : Hp} {CF CK CH : Addr}
theorem Dc.off {α : Type} {R : Rp α} {d : Addr} {nm : List Str} {cs : List α} (h : Dc R H d nm cs) (l1 : 1 ≤ nm.length) (ik : ∀ n ∈ nm, IsK n) (pn : Pn p c ns H) : d ≠ p := fun e => by
  obtain ⟨xs, h1, l, _⟩ := h
  obtain ⟨a, r, dd, m, t, S⟩ := pn
  rw [e, S.pd] at h1
  cases nm with
  | nil => simp at l1
  | cons n nm =>
    cases xs with
    | nil => simp at l
    | cons x xs =>
      have h1 := Option.some.inj h1
      injection h1 with h1
      have h2 := congrArg List.head? h1
      simp only [penD, kvz, List.zipWith_cons_cons, List.head?_cons, Option.some.injEq, kv2, Prod.mk.injEq, Sum.inr.injEq] at h2
      exact isK_cells (ik n List.mem_cons_self) h2.1.symm
theorem Dc.go {α : Type} {R : Rp α} {d : Addr} {nm : List Str} {cs : List α} (m : ∀ v c, R H v c → R H' v c) (h : Dc R H d nm cs) (l1 : 1 ≤ nm.length) (ik : ∀ n ∈ nm, IsK n) (pn : Pn p c ns H) (g : Go p c ns H H') : Dc R H' d nm cs := by
  have off := h.off l1 ik pn
  obtain ⟨xs, h1, l, ev⟩ := h
  exact ⟨xs, g.but _ _ off h1, l, ev.1, fun i x c a b => m _ _ (ev.2 i x c a b)⟩
theorem HouseAt.go {s : Addr} {root : Str} {ks : List KD} (h : HouseAt K CF CK CH H s root ks) (ik : ∀ x ∈ ks, IsK x.n) (pn : Pn p c ns H) (g : Go p c ns H H') : HouseAt K CF CK CH H' s root ks := by
  have st := go_stay pn g
  have l1 : 1 ≤ (ks.map (·.n)).length := by rw [List.length_map]; exact h.ok.n1
  have ikn : ∀ n ∈ ks.map (·.n), IsK n := fun n m => let ⟨x, mx, e⟩ := List.mem_map.mp m; e ▸ ik x mx
  obtain ⟨⟨dx, tn, tk, d, df, dl, dr, h1, h2, ⟨xs, h3, h3e⟩, h4, h5, h6, h7⟩, ok⟩ := h
  have mL : ∀ (v : V) (xs : List Str), rL H v xs → rL H' v xs := fun v xs ⟨l, e, q⟩ => ⟨l, e, g.but _ _ (Go.ne pn q fun x z => by cases z) q⟩
  exact ⟨⟨dx, tn, tk, d, df, dl, dr, st.i _ _ _ _ h1, st.sqT h2, ⟨xs, st.sqT h3, h3e.1, fun i x c a b => rK_stay st (h3e.2 i x c a b)⟩, h4.go (fun _ _ q => rK_stay st q) l1 ikn pn g, h5.go (fun v x ⟨t, e, q⟩ => ⟨t, e, q.stay st⟩) l1 ikn pn g, h6.go mL l1 ikn pn g, h7.go mL l1 ikn pn g⟩, ok⟩
theorem KindsAre.stay {s : Addr} {xs : List V} (h : KindsAre K CH H s xs) (st : Stay H H') : KindsAre K CH H' s xs := by
  obtain ⟨dx, fs, tk, h1, h2, h3⟩ := h
  exact ⟨dx, fs, tk, st.i _ _ _ _ h1, h2, st.sqT h3⟩
theorem stay_same (s : Same H H') : Stay H H' := ⟨fun b xs e => s _ _ e, fun b o xs e => s _ _ e, fun b C d fs e => s _ _ e⟩
theorem Stay.trans2 {H'' : Hp} (a : Stay H H') (b : Stay H' H'') : Stay H H'' := ⟨fun q xs e => b.t _ _ (a.t _ _ e), fun q o xs e => b.z _ _ _ (a.z _ _ _ e), fun q C d fs e => b.i _ _ _ _ (a.i _ _ _ _ e)⟩
end
section
variable {P : Program} {w : World} {K : PySem.W.Frag} {mg : Str → Option Value} {base : Heap} {CF CK CH CU CV CB : Addr}
/-- how many kinds a house has, by its names alone -/
def spHl2 (K : PySem.W.Frag) (CH : Addr) : Sp := fun vs H Q _ => ∃ (s dx tn : Addr) (fs : List (Str × V)) (xs : List V), vs = [.ref s] ∧ H s = some (.ins CH dx fs) ∧ List.lookup ("names" : Str) fs = some (.ref tn) ∧ SqT K H tn xs ∧ Q (.int (xs.length : Nat)) H
theorem ok_Hl2 {f : Addr} {fd : FuncData} (F : Fun K "__len__" "House.__len__" sHl f fd) (B : Bn mg) (HC : PlainC K CH houseAt) : FnOk P w K mg base CX0 1 f fd nHl (spHl2 K CH) := by
  refine F.ok scHl (fun vs H Q E h => ?_) (fun cdv A outer s0 H vs Q E hr h => ?_)
  · obtain ⟨s, dx, tn, fs, xs, rfl, _⟩ := h
    rfl
  · obtain ⟨s, dx, tn, fs, xs, rfl, hs, ln, ht, k⟩ := h
    refine ⟨_, 
      (pss_one (ps_ret (pe_callB call_len_seq (by rfl) B.len PySem.boot_len (pa_cons (pe_fld (pv 0) rfl) pa_nil)))), ?_⟩
    exact ⟨_, rfl, s, CH, dx, _, _, rfl, hs, HC.cl, HC.no _ (by simp), ln, tn, _, rfl, .inr ht, k⟩
/-- a house is no tuple -/
def spHEt (K : PySem.W.Frag) (CH : Addr) : Sp := fun vs H Q _ => ∃ (a q : Addr) (ys : List V), vs = [.ref a, .ref q] ∧ SqT K H q ys ∧ Q (.bl false) H
theorem ok_HEt {f fF : Addr} {fd fdF : FuncData} (F : Fun K "__eq__" "House.__eq__" sHE f fd) (B : Bn mg) (HC : PlainC K CH houseAt) (gH : mg "House" = some (.ref CH)) (xT : PySem.W.kitOne K (.type "tuple") (.ref CH) = some false) (KE : EqM P w K mg base CK 3 (spKT2 K CF CK) fF fdF) :
    FnOk P w K mg base CX0 5 f fd nHE (spHEt K CH) := by
  refine F.ok scHE (fun vs H Q E h => ?_) (fun cdv A outer s H vs Q E hr h => ?_)
  · obtain ⟨a, q, ys, rfl, _⟩ := h
    rfl
  · obtain ⟨a, q, ys, rfl, sq, k⟩ := h
    refine ⟨_, 
      (pss_one (ps_ret (pe_and (pe_callB call_isi (by rfl) B.isi boot_isi (pa_cons (pv 1) (pa_cons (pe_glob (v := .ref CH) (by rfl) gH rfl) pa_nil))) (pe_and (pe_cmpR op_eq (pe_fld (pv 0) rfl) (pe_fld (pv 1) rfl) (nomark _)) (pe_one (pe_cmpR (show OpR _ (compareOp .Eq) (rEqTO K CK (spKT2 K CF CK) E0) from op_eqTO KE.ok KE.bi pass0 KE.own (hr.mono (by decide))) (pe_fld (pv 0) rfl) (pe_fld (pv 1) rfl) (nomark _))))))), ?_⟩
    exact ⟨_, rfl, .ref q, .ref CH, _, .ref CH, false, rfl, .own CH, SqT.ty sq, xT, _, rfl, iteF k⟩
/-! ## a house with other kinds -/
abbrev sWk : Stmt := meth 32 26
abbrev nWk : List Str := ["self", "kinds", "root"]
abbrev psWk : List Str := ["self", "kinds", "root"]
def spWk (K : PySem.W.Frag) (CF CK CH CB : Addr) : Sp := fun vs H Q E => ∃ (s : Addr) (kv : V) (o : Option Str) (root : Str) (ks0 : List KD), vs = [.ref s, kv, tv o] ∧ HouseAt K CF CK CH H s root ks0 ∧
  (((∀ H', Same H H' → BadKs K CF CK H' kv) ∧ ∀ (H' : Hp) (e : Addr), Same H H' → H' e = some (.xd [("name", .non)]) → E (.ref CB) (some e) H') ∨
   ∃ (l : Addr) (xs : List V) (ks : List KD) (r : Str), kv = .ref l ∧ r = o.getD root ∧ (∃ ob, H l = some ob) ∧ (SqL K H l xs ∨ SqT K H l xs) ∧ Ev (rK K CF CK) H xs ks ∧ HouseOk r ks ∧ (∀ x ∈ ks, RowV x) ∧
    ∀ (a : Addr) H', H a = none → Same H H' → HouseAt K CF CK CH H' a r ks → KindsAre K CH H' a xs → Q (.ref a) H')
theorem scWk : FnScope nWk psWk (defScope sWk) := ⟨rfl, rfl, rfl, by decide +kernel, rfl, by decide +kernel, by decide +kernel⟩
theorem ok_Wk {params : Arguments} {kws : List (Str × V)} {f f1 : Addr} {fd fd1 : FuncData} (F : FunD K "with_kinds" "House.with_kinds" params (defBody sWk) (defScope sWk) [] kws f fd) (HC : PlainC K CH houseAt) (MH : MkHB P w K mg base CF CK CH CB f1 fd1) :
    FnOk P w K mg base (L2N.CX P w) 6 f fd psWk (spWk K CF CK CH CB) := by
  refine F.ok scWk (fun vs H Q E h => ?_) (fun cdv A outer s0 H vs Q E hr h => ?_)
  · obtain ⟨s, kv, o, root, ks0, rfl, _⟩ := h
    rfl
  · obtain ⟨s, kv, o, root, ks0, rfl, ha, h⟩ := h
    refine ⟨_, 
      (pss_one (ps_ret (pe_make MH.made MH.ok (hr.mono (by decide)) rfl MH.gl MH.bi .nil (L2N.passes_call (L2N.takes_of rfl rfl rfl rfl) (fun _ _ _ _ h => h)) (pa_cons (pe_ifExp (pt_cmp (pc_isN (pv 2))) (pe_fld (pv 0) rfl) (pv 2)) (pa_cons (pv 1) pa_nil))))), ?_⟩
    obtain ⟨dx, _, _, _, _, _, _, hs, _⟩ := id ha.ex
    have made : ∀ r : Str, r = o.getD root → ∀ x dx, H x = none → H dx = none → dx ≠ x → spHIB K CF CK CH CB [.ref x, .str r, kv] (upd (upd H dx (.own x)) x (.ins CH dx [])) (fun v H2 => v = .non ∧ Q (.ref x) H2) E := by
      intro r er a da ha1 hda ne
      have hm := made_same (C := CH) ha1 hda
      refine ⟨a, da, .str r, kv, rfl, upd_same, ?_⟩
      rcases h with ⟨bad, k⟩ | ⟨l, xs, ks, r2, rfl, er2, ol, sq, ev, ok, rv, k⟩
      · exact .inl ⟨fun H' s' => bad H' (hm.trans s'), fun H' e b he => k H' e (made_but ha1 hda b) he⟩
      · cases er.trans er2.symm
        refine .inr ⟨l, xs, ks, rfl, ol.imp fun ob e => hm _ _ e, seq_same hm sq, ev.same (mK K CF CK) hm, ok.n1, ok.n12, rv, rfl, fun z H' e du b he => ?_, fun r3 H' du er3 b hq hk => ⟨rfl, ?_⟩⟩
        · obtain ⟨x, mx, ex, kx⟩ := ok.root
          cases (DueIs.ok (ks := ks) (v := .str r) ok.alone ok.frz ⟨x, mx, by rw [ex], kx⟩).one du
        · cases er3
          exact k a H' ha1 (made_but ha1 hda b) hq hk
    cases o with
    | none => exact ⟨_, rfl, _, rfl, iteT ⟨_, rfl, s, CH, dx, _, _, rfl, hs, HC.cl, HC.no _ (by simp), (lk_h _ _ _ _ _ _ _).1, _, rfl, made root rfl⟩⟩
    | some r => exact ⟨_, rfl, _, rfl, iteF ⟨_, rfl, _, rfl, made r rfl⟩⟩
end
end Wh
set_option Elab.async false
set_option linter.all false
set_option maxRecDepth 100000
set_option maxHeartbeats 4000000
namespace Wh
open PySem PySem.Spec PyProof.Rows L2
open Wp hiding Same.refl Same.trans same_new boot_all run_own boot_repr
open W8 (Ev Rp Kp Mono same_new take_snoc rW rB mW mB ev_words ev_words_eq ev_bools_eq lc_sieve)
/-! ## other houses -/
/-- how a kind is made of a name and its fields -/
structure MkK2 (K : PySem.W.Frag) (fdI : FuncData) : Prop where
  kb : ∃ g : List Value → List Value → List Value, KBn K fdI psK 3 [] g (fun vs _ => vs ++ [.non, .bl false, .bl false, .non, .bl false])
structure MkWk (P : Program) (w : World) (K : PySem.W.Frag) (mg : Str → Option Value) (base : Heap) (CF CK CH CB f : Addr) (fd : FuncData) : Prop where
  ok : FnOk P w K mg base (L2N.CX P w) 6 f fd psWk (spWk K CF CK CH CB)
  mt : Meth K CH "with_kinds" f
  kr : KBn K fd psWk 2 ["root"] (fun us ws => us ++ ws) (fun vs zs => vs ++ zs)
  k0 : ∃ g : List Value → List Value → List Value, KBn K fd psWk 2 [] g (fun vs _ => vs ++ [.non])
section
variable {P : Program} {w : World} {K : PySem.W.Frag} {mg : Str → Option Value} {base : Heap} {CF CK CH CU CV CB CB2 : Addr}
abbrev sOh : Stmt := top 64
abbrev nOh : List Str := ["_law_pen_here", "_law_house", "_law_rows", "_law_own_root", "_law_other", "_law_kinds", "_law_again", "_law_at", "_law_bent", "_law_due", "_law_refused_here", "e", "_law_row_here"]
def spOh (K : PySem.W.Frag) (CF CK CH : Addr) : Sp := fun vs H Q _ => ∃ (p c s l : Addr) (ns : List Int) (root : Str) (rs : List KD) (ws : List V), vs = [.ref p, .ref s, .ref l, .str root] ∧ Pn p c ns H ∧ HouseAt K CF CK CH H s root rs ∧ KindsAre K CH H s ws ∧ Ev (rK K CF CK) H ws rs ∧ RowsL K H l rs ∧ (∀ y ∈ rs, RowV y) ∧
  (∀ r, (∃ x ∈ rs, x.n = r ∧ x.k = none) → HouseOk r rs) ∧ ∀ H', Go p c ns H H' → Q (.bl true) H'
theorem scOh : FnScope nOh ["_law_pen_here", "_law_house", "_law_rows", "_law_own_root"] (defScope sOh) := ⟨rfl, rfl, rfl, by decide +kernel, rfl, by decide +kernel, by decide +kernel⟩
theorem ok_Oh {f f1 f2 f3 f4 f5 f6 f7 f8 fB : Addr} {fd fd1 fd2 fd3 fd4 fd5 fd6 fd7 fd8 fdB : FuncData} (F : Fun K "_law_other_houses" "_law_other_houses" sOh f fd) (B : Bn mg) (HC : PlainC K CH houseAt)
    (RT : Known P w K mg base CX0 3 "_law_root" ["_law_pen_here", "_law_rows"] (spRt K) f1 fd1) (MKD : Known P w K mg base CX0 7 "_law_made_kind" ["_law_row_here"] (spMk K CF CK) f2 fd2) (TK : Known P w K mg base CX0 1 "_law_take" ["_law_pen_here", "_law_bound"] spTake f3 fd3) (WK : MkWk P w K mg base CF CK CH CB f4 fd4) (MK : MkKd P w K mg base CF CK CB2 f5 fd5) (M2 : MkK2 K fd5)
    (HE : EqM P w K mg base CH 5 (spHE2 K CF CK CH) f6 fd6) (HT_ : EqM P w K mg base CH 5 (spHEt K CH) f7 fd7) (HL_ : KMt P w K mg base CH CX0 1 "__len__" nHl (spHl2 K CH) f8 fd8) (hlS : PySem.W.findIn K (.ref CH) "__len__" = some (some (.ref f8))) (hlF : PySem.W.isFn K (.ref f8) = true)
    (M : Mk1 P w K mg base "BadHouse" "name" CB fB fdB) (XB : XfC K CB) (bb : PySem.W.exmOne K (.ref CB) (.ref CB) = some true) (nfT : PySem.W.notFirst K CH (.type "tuple") = true) :
    FnOk P w K mg base CX0 8 f fd ["_law_pen_here", "_law_house", "_law_rows", "_law_own_root"] (spOh K CF CK CH) := by
  refine F.ok scOh (fun vs H Q E h => ?_) (fun cdv A outer s0 H vs Q E hr h => ?_)
  · obtain ⟨p, c, s, l, ns, root, rs, ws, rfl, _⟩ := h
    rfl
  · obtain ⟨p, c, s, l, ns, root, rs, ws, rfl, pn, ha, hk, ek, R, rv, hok, k⟩ := h
    obtain ⟨g2, kb2⟩ := M2.kb
    obtain ⟨g0, wk0⟩ := WK.k0
    have hu := hu_of hr
    have ik : ∀ x ∈ rs, IsK x.n := fun x mx => (rv x mx).n
    have n1 := ha.ok.n1
    have n12 := ha.ok.n12
    refine ⟨_, 
      (pss_cons (ps_set (i := 4) scOh.nd rfl (.inl rfl) (pe_call RT.ok (hr.mono (by decide)) rfl RT.mg RT.kp RT.bi .nil pass0 (pa_cons (pv 0) (pa_cons (pv 2) pa_nil))))
      (pss_cut (ps_setLc (i := 5) (own := [("_law_row_here", 12)]) (g := gName 12) (tt := tYes)  rfl scOh.nd rfl rfl (sw_true rfl rfl rfl (by decide +kernel)) (pi_list (pv 2)) (blkOk_by (N := nOh) (sc := defScope sOh) (by decide +kernel)) (fun _ _ _ _ _ => pg_name (i := 12) scOh.nd rfl (Or.inl rfl)) (fun _ _ _ _ _ => pts_nil) (fun _ _ _ _ _ => (pe_call MKD.ok (hr.mono (by decide)) rfl MKD.mg MKD.kp MKD.bi .nil pass0 (pa_cons (pv 12) pa_nil))))
      (pss_cons (ps_set (i := 6) scOh.nd rfl (.inl rfl) (pe_methK (E := fun _ => E0) (pv 1) HC.cl WK.mt WK.ok (hr.mono (by decide)) WK.kr (passAll passLN) (pa_cons (pv 5) pa_nil) (pk_cons (pv 4) pk_nil)))
      (pss_cut (ps_if (PW.pt (pw_or (pt_cmpR op_ne (pe_fld (pv 6) rfl) (pv 4) (nomark _)) (pw_or (pt_cmpR op_ne (pe_cmpR (op_ownEq HE.ok HE.bi pass0 HE.own (hr.mono (by decide))) (pv 6) (pv 1) (nomark _)) (pe_cmpR op_eq (pv 4) (pv 3) (nomark _)) (nomark _)) (pw_or1 (pt_cmpR (op_ownNe HE.ok HE.bi pass0 HE.own (hr.mono (by decide))) (pe_methK (E := fun _ => E0) (pv 1) HC.cl WK.mt WK.ok (hr.mono (by decide)) wk0 (passAll passLN) (pa_cons (pv 5) pa_nil) pk_nil) (pv 1) (nomark _)))))) 
        (pss_one (ps_ret pe_bl)) pss_nil)
      (pss_cons (ps_expr (pe_bm PySem.F.plainAttrs_list PySem.F.slot_list_append PySem.F.type_list_append mt_append (pv 5) (pa_cons pe_non pa_nil)))
      (pss_cut (ps_if (PW.pt (pw_or (pt_cmpR op_ne (pe_callB (show CallR _ (.builtin "len") (Wk.rOwnLen CH (spHl2 K CH) E0) from Wk.call_ownLen HL_.ok HL_.bi pass0 hlS hlF (hr.mono (by decide))) (by rfl) B.len PySem.boot_len (pa_cons (pv 6) pa_nil)) (pe_callB call_len_seq (by rfl) B.len PySem.boot_len (pa_cons (pv 2) pa_nil)) (nomark _)) (pw_or1 (pt_cmpR op_ne (pe_fld (pv 1) rfl) (pv 3) (nomark _))))) 
        (pss_one (ps_ret pe_bl)) pss_nil)
      (pss_cons (ps_set (i := 7) scOh.nd rfl (.inl rfl) (pe_call TK.ok (hr.mono (by decide)) rfl TK.mg TK.kp TK.bi .nil pass0 (pa_cons (pv 0) (pa_cons (pe_callB call_len_seq (by rfl) B.len PySem.boot_len (pa_cons (pv 2) pa_nil)) pa_nil))))
      (pss_cut (ps_setLc (i := 8) (own := [("_law_row_here", 12)]) (g := gName 12) (tt := tYes)  rfl scOh.nd rfl rfl (sw_true rfl rfl rfl (by decide +kernel)) (pi_list (pv 2)) (blkOk_by (N := nOh) (sc := defScope sOh) (by decide +kernel)) (fun _ _ _ _ _ => pg_name (i := 12) scOh.nd rfl (Or.inl rfl)) (fun _ _ _ _ _ => pts_nil) (fun _ _ _ _ _ => (pe_call MKD.ok (hr.mono (by decide)) rfl MKD.mg MKD.kp MKD.bi .nil pass0 (pa_cons (pv 12) pa_nil))))
      (pss_cons (ps_set (i := 9) scOh.nd rfl (.inl rfl) pe_bl)
      (pss_cut (ps_if (pt_not (pt_val (pe_dget hu (pe_ix ix_list (pv 2) (pv 7) (fun _ _ => rfl)) pe_str (fun _ _ => rfl)))) 
        (pss_cons (ps_asg (pe_makeK MK.made MK.ok (hr.mono (by decide)) rfl MK.gl kb2 passLN (pa_cons (pe_dget hu (pe_ix ix_list (pv 2) (pv 7) (fun _ _ => rfl)) pe_str (fun _ _ => rfl)) (pa_cons (pe_lst pa_nil) pa_nil)) pk_nil) (pg_sub (pv 8) (pv 7) set_list))
        (pss_one (ps_set (i := 9) scOh.nd rfl (.inl rfl) (pe_and (pe_cmpR (op_eqD hr.units) (pe_dget hu (pe_ix ix_list (pv 2) (pv 7) (fun _ _ => rfl)) pe_str (fun _ _ => rfl)) (pe_lst pa_nil) (nomark _)) (pe_and (pe_cmp (pc_isN (pe_dget hu (pe_ix ix_list (pv 2) (pv 7) (fun _ _ => rfl)) pe_str (fun _ _ => rfl))) rfl) (pe_one (pe_not (pe_dget hu (pe_ix ix_list (pv 2) (pv 7) (fun _ _ => rfl)) pe_str (fun _ _ => rfl))))))))) pss_nil)
      (pss_cut (ps_if (pt_cmpR op_ne (pe_cmpR (op_ownEq HE.ok HE.bi pass0 HE.own (hr.mono (by decide))) (pe_methK (E := fun _ => E0) (pv 1) HC.cl WK.mt WK.ok (hr.mono (by decide)) wk0 (passAll passLN) (pa_cons (pv 8) pa_nil) pk_nil) (pv 1) (nomark _)) (pv 9) (nomark _)) 
        (pss_one (ps_ret pe_bl)) pss_nil)
      (pss_cons (ps_set (i := 10) scOh.nd rfl (.inl rfl) pe_int)
      (pss_cut (L2N.ps_try_as (i := 11) (Wout := fun _ _ _ _ => False) rfl rfl scOh.nd rfl rfl ⟨rfl, by decide, .inl M.gC⟩ takesN0
        (fun W pn xe tk _ => pss_one (ps_expr (by exact (pe_methK (pv 1) HC.cl WK.mt WK.ok (hr.mono (by decide)) wk0 (fun σ => L2N.passAt tk σ) (pa_cons (pe_lst pa_nil) pa_nil) pk_nil))))
        (fun a oe cls d pn hz hf => pss_one (ps_set (i := 10) scOh.nd rfl (.inl rfl) (pe_callTy call_int1 (by rfl) B.int PyProof.Rows.boot_int (pa_cons (pe_cmp (pc_isN (pe_xf XB M.no hz.zc hf (pv 11))) rfl) pa_nil)))))
      (pss_one (ps_ret (pe_and (pe_cmpR op_eq (pv 10) pe_int (nomark _)) (pe_one (pe_cmpR (op_ownNe HT_.ok HT_.bi pass0 HT_.own (hr.mono (by decide))) (pv 1) (pe_callTy call_tuple_of (by rfl) B.tuple boot_ttuple (pa_cons (pv 5) pa_nil)) (nomark _))))))))))))))))))), ?_⟩
    -- another root, the kinds anew
    refine ⟨_, rfl, _, rfl, p, c, l, ns, rs, rfl, pn, R, by omega, (let ⟨x, mx, _, kx⟩ := ha.ok.root; ⟨x, mx, kx⟩), fun other H1 g1 ho => ?_⟩
    have ok2 := hok other ho
    have pn1 := g1.pn
    have st1 := go_stay pn g1
    have ha1 := ha.go ik pn g1
    have hk1 := hk.stay st1
    have ek1 : Ev (rK K CF CK) H1 ws rs := ⟨ek.1, fun i x c a b => rK_stay st1 (ek.2 i x c a b)⟩
    have R1 := R.go pn g1
    -- what was there at H1
    have old : ∀ {H' : Hp}, Same H1 H' → Ev (rKo K CF CK H1) H' ws rs := fun s => ⟨ek1.1, fun i x c a b => rKo_of (ek1.2 i x c a b) (stay_same s)⟩
    have oldG : ∀ {H' : Hp}, Stay H1 H' → Ev (rKo K CF CK H1) H' ws rs := fun s => ⟨ek1.1, fun i x c a b => rKo_of (ek1.2 i x c a b) s⟩
    obtain ⟨us, hl, ev⟩ := id R1
    refine ⟨fun σ H2 => ∃ (Kl : Addr) (ys : List V), σ = [some (.ref p), some (.ref s), some (.ref l), some (.str root), some (.str other), some (.ref Kl), none, none, none, none, none, none, none] ∧ H1 Kl = none ∧ H2 Kl = some (.lst ys) ∧ Ev (rKn K CF CK H1) H2 ys rs ∧ Same H1 H2, ?_, ?_⟩
    · refine ⟨_, rfl, l, rfl, ⟨us, hl⟩, fun D hD => ?_⟩
      refine lc_sieve (R := cR (rRow K) H1) (R2 := rKn K CF CK H1) mR (mKn K CF CK H1) (fun _ => true) id (cs := rs) walk_list (by omega) (fun H' s => s.seq hl) hD (evB ev _) (fun v c H2 Rq _ _ _ kk => kk _ (Same.refl _)) ?_ ?_
      · rintro u x H2 Rq mx _ s2 r kk
        exact ⟨_, rfl, u, x, rfl, rRow_same s2 (show rRow K H1 u x from r), rv x mx, fun u H' s' r' => kk u H' s' (r'.base s2)⟩
      intro H2 ys s2 hys ey
      rw [filter_all, List.map_id] at ey
      exact ⟨D, ys, rfl, hD, hys, ey, s2⟩
    rintro _ H2 ⟨Kl, ys, rfl, fK, eK, ey, s2⟩
    have eyK : Ev (rK K CF CK) H2 ys rs := ⟨ey.1, fun i x c a b => (ey.2 i x c a b).1⟩
    obtain ⟨hx, _, _, _, _, _, _, hs1, _⟩ := id ha1.ex
    refine ⟨_, rfl, s, hx, _, rfl, s2 _ _ hs1, rfl, _, rfl, _, rfl, rfl, rfl, ?_⟩
    have nameT : ∀ {H' : Hp} {a : Addr} {r : Str}, HouseAt K CF CK CH H' a r rs → ∃ dx tn fs xs, H' a = some (.ins CH dx fs) ∧ List.lookup ("names" : Str) fs = some (.ref tn) ∧ List.lookup ("root" : Str) fs = some (.str r) ∧ SqT K H' tn xs ∧ xs.length = rs.length := fun h => by
      obtain ⟨dx, tn, tk, d, df, dl, dr, h1, h2, _⟩ := h.ex
      exact ⟨dx, tn, _, _, h1, (lk_h _ _ _ _ _ _ _).2.1, (lk_h _ _ _ _ _ _ _).1, h2, by rw [List.length_map, List.length_map]⟩
    refine ⟨s, .ref Kl, some other, root, rs, rfl, ha1.same s2, .inr ⟨Kl, ys, rs, other, rfl, rfl, ⟨_, eK⟩, .inl (SqL.of eK), eyK, ok2, rv, fun a H3 fa s3 hqa hka => ?_⟩⟩
    have s13 := s2.trans s3
    refine ⟨fun σ H4 => σ = [some (.ref p), some (.ref s), some (.ref l), some (.str root), some (.str other), some (.ref Kl), some (.ref a), none, none, none, none, none, none] ∧ Same H3 H4, ?_, ?_⟩
    · obtain ⟨da, ta, fsa, xsa, hia, lna, lra, _, _⟩ := nameT hqa
      refine ⟨_, rfl, a, CH, da, _, _, rfl, hia, HC.cl, HC.no _ (by simp), lra, _, rfl, rfl, _, rfl, iteSameV ?_⟩
      refine ⟨_, rfl, _, rfl, a, da, _, rfl, hia, .ins s CH hx _ (s13 _ _ hs1) HE.nf, a, s, other, root, rs, rs, ys, ws, H1, rfl, hqa, hka, ey.same (mKn K CF CK H1) s3, ha1.same s13, hk1.stay (stay_same s13), old s13, ?_⟩
      refine ⟨_, rfl, _, rfl, _, rfl, rfl, rfl, _, rfl, ?_⟩
      rw [show (!decide (V.bl (if false = true then !(decide (other = root) && decide (rs = rs)) else (decide (other = root) && decide (rs = rs))) = V.bl (decide (V.str other = V.str root)))) = false by simp]
      refine iteF ?_
      refine ⟨_, rfl, s, hx, _, rfl, s13 _ _ hs1, rfl, _, rfl, rfl, rfl, s, .ref Kl, none, root, rs, rfl, ha1.same s13, .inr ⟨Kl, ys, rs, root, rfl, rfl, ⟨_, s3 _ _ eK⟩, .inl (SqL.of (s3 _ _ eK)), eyK.same (mK K CF CK) s3, ha.ok, rv, fun b H4 fb s4 hqb hkb => ?_⟩⟩
      obtain ⟨db, tb, fsb, xsb, hib, lnb, lrb, _, _⟩ := nameT hqb
      have s14 := s13.trans s4
      refine ⟨_, rfl, b, db, _, rfl, hib, .ins s CH hx _ (s14 _ _ hs1) HE.nf, b, s, root, root, rs, rs, ys, ws, H1, rfl, hqb, hkb, ey.same (mKn K CF CK H1) (s3.trans s4), ha1.same s14, hk1.stay (stay_same s14), old s14, ?_⟩
      refine ⟨_, rfl, _, rfl, ?_⟩
      rw [show (if true = true then !(decide (root = root) && decide (rs = rs)) else (decide (root = root) && decide (rs = rs))) = false by simp]
      exact iteF ⟨rfl, s4⟩
    rintro _ H4 ⟨rfl, s4⟩
    have s14 := s13.trans s4
    have eK4 := (s3.trans s4) _ _ eK
    refine ⟨_, rfl, .inl ⟨rfl, _, SqL.of eK4⟩, Kl, ys, .non, rfl, rfl, eK4, by have := ey.1; rw [sizeLine_eq]; omega, ?_⟩
    have s15 : Same H1 (upd H4 Kl (.lst (ys ++ [.non]))) := s14.over fK
    have st5 : Stay H3 (upd H4 Kl (.lst (ys ++ [.non]))) := (stay_same s4).trans2 (.kp (W8.Kp.lst eK4))
    have eK5 : upd H4 Kl (.lst (ys ++ [.non])) Kl = some (.lst (ys ++ [.non])) := upd_same
    obtain ⟨H5, eH5⟩ : ∃ H5, upd H4 Kl (.lst (ys ++ [.non])) = H5 := ⟨_, rfl⟩
    rw [eH5] at s15 st5 eK5 ⊢
    refine ⟨fun σ H6 => σ = [some (.ref p), some (.ref s), some (.ref l), some (.str root), some (.str other), some (.ref Kl), some (.ref a), none, none, none, none, none, none] ∧ H6 = H5, ?_, ?_⟩
    · obtain ⟨da, ta, fsa, xsa, hia, lna, lra, sqa, lxa⟩ := nameT hqa
      refine ⟨_, rfl, a, da, _, rfl, st5.i _ _ _ _ hia, a, da, ta, _, xsa, rfl, st5.i _ _ _ _ hia, lna, st5.sqT sqa, _, rfl, by omega, by omega, ?_⟩
      refine ⟨_, rfl, l, us, rfl, .inl (s15.seq hl), rfl, _, rfl, ?_⟩
      rw [lxa, ev.1]
      refine iteSameV ?_
      obtain ⟨dr, tr, fsr, xsr, hir, lnr, lrr, _, _⟩ := nameT ha1
      refine ⟨_, rfl, s, CH, dr, _, _, rfl, s15 _ _ hir, HC.cl, HC.no _ (by simp), lrr, _, rfl, rfl, _, rfl, iteSameV ⟨rfl, rfl⟩⟩
    rintro _ H6 ⟨rfl, e6⟩
    subst e6
    have pn5 := pn1.same s15
    have R5 := R1.same s15
    have ha5 := ha1.same s15
    have hk5 := hk1.stay (stay_same s15)
    have ek5 : Ev (rK K CF CK) H6 ws rs := ek1.same (mK K CF CK) s15
    refine ⟨_, rfl, _, rfl, l, us, rfl, .inl (s15.seq hl), ?_⟩
    dsimp (config := { proj := false }) only [tCons, L2.tC, tNil, List.append_nil]
    have lus := ev.1
    refine take_go (b := (us.length : Nat)) pn5 (by omega) (by omega) fun u H7 u0 u1 g7 => ?_
    obtain ⟨i, rfl⟩ := Int.eq_ofNat_of_zero_le u0
    have li : i < rs.length := by omega
    have ex : rs[i]? = some rs[i] := List.getElem?_eq_getElem li
    obtain ⟨x, hx0⟩ : ∃ x, rs[i] = x := ⟨_, rfl⟩
    rw [hx0] at ex
    have mx := List.mem_of_getElem? ex
    have st7 := go_stay pn5 g7
    have pn7 := g7.pn
    have ha7 := ha5.go ik pn5 g7
    have hk7 := hk5.stay st7
    have ek7 : Ev (rK K CF CK) H7 ws rs := ⟨ek5.1, fun i x c a b => rK_stay st7 (ek5.2 i x c a b)⟩
    have R7 := R5.go pn5 g7
    have eK7 := g7.but _ _ (Go.ne pn5 eK5 fun x z => by cases z) eK5
    have g07 := (g1.trans (Go.of pn1 s15)).trans g7
    have old7 : ∀ {H' : Hp}, Same H7 H' → Ev (rKo K CF CK H7) H' ws rs := fun s => ⟨ek7.1, fun i x c a b => rKo_of (ek7.2 i x c a b) (stay_same s)⟩
    obtain ⟨us7, hl7, ev7⟩ := id R7
    obtain ⟨hx7, _, _, _, _, _, _, hs7, _⟩ := id ha7.ex
    clear hqa hka st5 eK5 eK4 ey eyK old oldG
    refine ⟨fun σ H8 => ∃ (Bn : Addr) (ys : List V), σ = [some (.ref p), some (.ref s), some (.ref l), some (.str root), some (.str other), some (.ref Kl), some (.ref a), some (.int (i : Nat)), some (.ref Bn), none, none, none, none] ∧ H7 Bn = none ∧ H8 Bn = some (.lst ys) ∧ Ev (rKn K CF CK H7) H8 ys rs ∧ Same H7 H8, ?_, ?_⟩
    · refine ⟨_, rfl, l, rfl, ⟨us7, hl7⟩, fun D hD => ?_⟩
      refine lc_sieve (R := cR (rRow K) H7) (R2 := rKn K CF CK H7) mR (mKn K CF CK H7) (fun _ => true) id (cs := rs) walk_list (by omega) (fun H' s => s.seq hl7) hD (evB ev7 _) (fun v c H2 Rq _ _ _ kk => kk _ (Same.refl _)) ?_ ?_
      · rintro u x H2 Rq mx _ s2 r kk
        exact ⟨_, rfl, u, x, rfl, rRow_same s2 (show rRow K H7 u x from r), rv x mx, fun u H' s' r' => kk u H' s' (r'.base s2)⟩
      intro H2 ys s2 hys ey
      rw [filter_all, List.map_id] at ey
      exact ⟨D, ys, rfl, hD, hys, ey, s2⟩
    rintro _ H8 ⟨Bn, ys2, rfl, fB, eB, ey2, s8⟩
    have ly2 := ey2.1
    obtain ⟨v7, hv7, r7⟩ := ev_back ev7 ex
    obtain ⟨d, lo, wsf, rfl, hd7, hlo7, ewf⟩ := r7
    have ix : ∀ {H' : Hp}, Same H7 H' → SqL K H' l us7 ∧ H' d = some (.dK (rowD x lo)) := fun s => ⟨s.seq hl7, s _ _ hd7⟩
    refine ⟨fun σ H9 => ∃ (ks2 : List KD) (ys3 : List V), σ = [some (.ref p), some (.ref s), some (.ref l), some (.str root), some (.str other), some (.ref Kl), some (.ref a), some (.int (i : Nat)), some (.ref Bn), some (.bl (decide (ks2 = rs))), none, none, none] ∧ H9 Bn = some (.lst ys3) ∧ Ev (rKn K CF CK H7) H9 ys3 ks2 ∧ HouseOk root ks2 ∧ (∀ y ∈ ks2, RowV y) ∧ Same H7 H9, ?_, ?_⟩
    · refine ⟨_, rfl, _, rfl, l, us7, _, _, rfl, rfl, (ix s8).1, atI_nat hv7, d, _, rfl, g_heirs (ix s8).2, ?_⟩
      cases eh : x.h with
      | true =>
        refine ⟨_, rfl, iteF ⟨rs, ys2, ?_, eB, ey2, ha.ok, rv, s8⟩⟩
        rw [decide_eq_true rfl]
        rfl
      | false =>
        refine ⟨_, rfl, iteT ?_⟩
        have rk := kd0_ok (ik x mx)
        have gx := rk.good
        refine ⟨_, rfl, _, rfl, l, us7, _, _, rfl, rfl, (ix s8).1, atI_nat hv7, d, _, rfl, g_name (ix s8).2, by show 0 ≤ sizeLine; decide, fun L hL => ⟨rfl, rfl, fun b db hb hdb ne => ?_⟩⟩
        have sL := same_new (o := HO.lst []) hL
        have e5 : upd H8 L (.lst []) L = some (.lst []) := upd_same
        obtain ⟨H9, eH9⟩ : ∃ H9, upd H8 L (.lst []) = H9 := ⟨_, rfl⟩
        rw [eH9] at sL e5 hb hdb ⊢
        have sm := made_same (C := CK) hb hdb
        refine ⟨b, db, .str x.n, .ref L, .non, .bl false, .bl false, .non, .bl false, .str x.n, .none, .bool false, .bool false, .none, .bool false, some [], [], rfl, upd_same, .dat (.str _) gx.n, ⟨L, rfl, .inl (SqL.of (sm _ _ e5)), .nil, by decide⟩, .dat .non rfl, .dat (.bl _) rfl, .dat (.bl _) rfl, .dat .non rfl, .dat (.bl _) rfl, gx.sn, gx.sb, gx.sk, fun _ HA tf bt ei sT => ⟨rfl, ?_⟩, fun bad => ?_⟩
        rotate_left
        · have := gx.right
          rw [show kindRight (.str x.n) (some []) .none (.bool false) (.bool false) .none (.bool false) = true from this] at bad
          cases bad
        have s3 : Same H8 HA := fun c o q => bt _ _ (ne_of_none (sL _ _ q) hb) (sm _ _ (sL _ _ q))
        have s7A := s8.trans s3
        have eBA := s3 _ _ eB
        have newb : H7 b = none := Same.free2 (s8.trans sL) hb
        have rn : rKn K CF CK H7 HA (.ref b) (kd0 x.n) := ⟨⟨b, db, tf, rfl, ei, [], sT, rfl, fun i x c h => by simp at h⟩, b, db, tf, [], rfl, newb, ei, sT, rfl, fun i x c h => by simp at h⟩
        refine ⟨_, rfl, _, rfl, Bn, ys2, (i : Nat), i, rfl, rfl, eBA, ?_, ?_⟩
        · unfold ixN
          rw [if_pos (by omega), if_pos (by omega)]
          rfl
        have kp : W8.Kp HA (upd HA Bn (.lst (ys2.set i (.ref b)))) := W8.Kp.lst eBA
        have sB : Same H7 (upd HA Bn (.lst (ys2.set i (.ref b)))) := s7A.over fB
        have eB2 : upd HA Bn (.lst (ys2.set i (.ref b))) Bn = some (.lst (ys2.set i (.ref b))) := upd_same
        obtain ⟨HB, eHB⟩ : ∃ HB, upd HA Bn (.lst (ys2.set i (.ref b))) = HB := ⟨_, rfl⟩
        rw [eHB] at kp sB eB2 ⊢
        have ey3 : Ev (rKn K CF CK H7) HB (ys2.set i (.ref b)) (rs.set i (kd0 x.n)) := by
          refine ⟨by rw [List.length_set, List.length_set]; exact ly2, fun j u z h1 h2 => ?_⟩
          rw [List.getElem?_set] at h1 h2
          by_cases q : i = j
          · subst q
            rw [if_pos rfl] at h1 h2
            rw [if_pos (by omega)] at h1 h2
            cases h1
            cases h2
            exact mKn K CF CK H7 _ _ _ _ kp rn
          · rw [if_neg q] at h1 h2
            exact mKn K CF CK H7 _ _ _ _ kp (mKn K CF CK H7 _ _ _ _ (.of s3) (ey2.2 j u z h1 h2))
        have okb := ha.ok.bent ex eh
        have rvb : ∀ y ∈ rs.set i (kd0 x.n), RowV y := fun y my => by
          rcases List.mem_or_eq_of_mem_set my with m | e
          · exact rv y m
          · rw [e]
            exact rk
        have fin : ∀ {H' : Hp} (bo : Bool), bo = decide (rs.set i (kd0 x.n) = rs) → Same HB H' → ∃ (ks2 : List KD) (ys3 : List V), [some (V.ref p), some (.ref s), some (.ref l), some (.str root), some (.str other), some (.ref Kl), some (.ref a), some (.int (i : Nat)), some (.ref Bn), some (.bl bo), none, none, none] = [some (.ref p), some (.ref s), some (.ref l), some (.str root), some (.str other), some (.ref Kl), some (.ref a), some (.int (i : Nat)), some (.ref Bn), some (.bl (decide (ks2 = rs))), none, none, none] ∧ H' Bn = some (.lst ys3) ∧ Ev (rKn K CF CK H7) H' ys3 ks2 ∧ HouseOk root ks2 ∧ (∀ y ∈ ks2, RowV y) ∧ Same H7 H' := fun bo e s' =>
          ⟨rs.set i (kd0 x.n), _, by rw [e], s' _ _ eB2, ey3.same (mKn K CF CK H7) s', okb, rvb, sB.trans s'⟩
        have due := bent_eq ha.ok rv ex eh
        refine ⟨_, rfl, _, rfl, l, us7, _, _, rfl, rfl, (ix sB).1, atI_nat hv7, d, _, rfl, g_own (ix sB).2, by show 0 ≤ sizeLine; decide, fun E1 fE1 => ?_⟩
        have sE := same_new (o := HO.lst []) fE1
        have sBE := sB.trans sE
        obtain ⟨f1', f2'⟩ := fvDs_lay x.fs (rv x mx).fs
        have shf : SeqAt.shaped (.list (x.fs.map fvD)) = true := by
          refine Bool.and_eq_true_iff.mpr ⟨f1', decide_eq_true ?_⟩
          simp only [PyData.depth]
          omega
        refine ⟨.list (x.fs.map fvD), .list [], .lst (sBE.seq hlo7) (dp_fields (ewf.same (mLF K) sBE)), .lst (SqL.of upd_same) .nil, shf, rfl, _, rfl, ?_⟩
        rw [show PyData.eqv (.list (x.fs.map fvD)) (.list []) = decide (x.fs = []) by cases x.fs <;> rfl]
        cases e1 : decide (x.fs = []) with
        | false => exact iteF (fin false (by rw [due, e1]; rfl) sE)
        | true =>
          refine iteT ⟨_, rfl, _, rfl, l, us7, _, _, rfl, rfl, (ix sBE).1, atI_nat hv7, d, _, rfl, g_base (ix sBE).2, _, rfl, ?_⟩
          cases eb : x.b with
          | some z => exact iteF (fin false (by rw [due, e1, eb]; rfl) sE)
          | none =>
            refine iteT ⟨_, rfl, _, rfl, l, us7, _, _, rfl, rfl, (ix sBE).1, atI_nat hv7, d, _, rfl, g_frozen (ix sBE).2, ?_⟩
            exact ⟨_, rfl, fin (!x.f) (by rw [due, e1, eb]; rfl) sE⟩
    rintro _ H9 ⟨ks2, ys3, rfl, eB9, ey3, okb, rvb, s9⟩
    have eyK3 : Ev (rK K CF CK) H9 ys3 ks2 := ⟨ey3.1, fun i x c a b => (ey3.2 i x c a b).1⟩
    have hs9 := s9 _ _ hs7
    refine ⟨fun σ HA => σ = [some (.ref p), some (.ref s), some (.ref l), some (.str root), some (.str other), some (.ref Kl), some (.ref a), some (.int (i : Nat)), some (.ref Bn), some (.bl (decide (ks2 = rs))), none, none, none] ∧ Same H9 HA, ?_, ?_⟩
    · refine ⟨_, rfl, s, hx7, _, rfl, hs9, rfl, _, rfl, rfl, rfl, s, .ref Bn, none, root, rs, rfl, ha7.same s9, .inr ⟨Bn, ys3, ks2, root, rfl, rfl, ⟨_, eB9⟩, .inl (SqL.of eB9), eyK3, okb, rvb, fun b HA fb sA hqb hkb => ?_⟩⟩
      obtain ⟨db, _, _, _, _, _, _, hib, _⟩ := id hqb.ex
      have s9A := s9.trans sA
      refine ⟨_, rfl, b, db, _, rfl, hib, .ins s CH hx7 _ (s9A _ _ hs7) HE.nf, b, s, root, root, ks2, rs, ys3, ws, H7, rfl, hqb, hkb, ey3.same (mKn K CF CK H7) sA, ha7.same s9A, hk7.stay (stay_same s9A), old7 s9A, ?_⟩
      refine ⟨_, rfl, _, rfl, rfl, _, rfl, ?_⟩
      rw [show (!decide (V.bl (if false = true then !(decide (root = root) && decide (ks2 = rs)) else (decide (root = root) && decide (ks2 = rs))) = V.bl (decide (ks2 = rs)))) = false by simp]
      exact iteF ⟨rfl, sA⟩
    rintro _ HA ⟨rfl, sA⟩
    have s7A := s9.trans sA
    refine ⟨fun σ HB => ∃ v11, σ = [some (.ref p), some (.ref s), some (.ref l), some (.str root), some (.str other), some (.ref Kl), some (.ref a), some (.int (i : Nat)), some (.ref Bn), some (.bl (decide (ks2 = rs))), some (.int 1), v11, none] ∧ Same HA HB, ?_, ?_⟩
    · refine ⟨_, rfl, s, hx7, _, rfl, s7A _ _ hs7, rfl, by show 0 ≤ sizeLine; decide, fun L hL => ⟨rfl, rfl, ?_⟩⟩
      have sL := same_new (o := HO.lst []) hL
      have eL : upd HA L (.lst []) L = some (.lst []) := upd_same
      obtain ⟨HB, eHB⟩ : ∃ HB, upd HA L (.lst []) = HB := ⟨_, rfl⟩
      rw [eHB] at sL eL ⊢
      refine ⟨s, .ref L, none, root, rs, rfl, ha7.same (s7A.trans sL), .inl ⟨fun H' s' => .inr ⟨L, [], rfl, .inl (SqL.of (s' _ _ eL)), .inl rfl⟩, fun HC2 e sC e1 => ?_⟩⟩
      refine ⟨true, bb, fun _ a0 na0 => ?_, fun q => Bool.noConfusion q⟩
      exact ⟨_, rfl, rfl, rfl, e, _, .non, rfl, e1, (by simp [List.lookup]), .inr ⟨_, rfl, _, rfl, sL.trans sC⟩⟩
    rintro _ HB ⟨v11, rfl, sB⟩
    have s7B := s7A.trans sB
    refine ⟨_, rfl, rfl, _, rfl, iteT ?_⟩
    refine ⟨_, rfl, _, rfl, Kl, _, rfl, .inl ⟨SqL.of (s7B _ _ eK7), fun t ht => ?_⟩⟩
    have sT := same_new (o := HO.tup (ys ++ [V.non])) ht
    refine ⟨s, hx7, _, rfl, (s7B.trans sT) _ _ hs7, .tup t _ (SqT.of upd_same) nfT, s, t, _, rfl, SqT.of upd_same, _, rfl, ?_⟩
    exact k _ (g07.trans (Go.of pn7 (s7B.trans sT)))
end
end Wh
set_option Elab.async false
set_option linter.all false
set_option maxRecDepth 100000
set_option maxHeartbeats 4000000
namespace Wh
open PySem PySem.Spec PyProof.Rows L2
open Wp hiding Same.refl Same.trans same_new boot_all run_own boot_repr
open W8 (Ev Rp Kp Mono same_new take_snoc rW rB mW mB ev_words ev_words_eq ev_bools_eq lc_sieve)
/-! ## the law -/
section
variable {P : Program} {w : World} {K : PySem.W.Frag} {mg : Str → Option Value} {base : Heap} {CF CK CH CU CV CB CB2 : Addr}
theorem neT {H : Hp} {a b : Addr} {ws : List Str} {Q : VK} (ha : SqT K H a (ws.map V.str)) (hb : SqT K H b (ws.map V.str)) (ok : ∀ x ∈ ws, PyData.strOk x = true) (k : Q (.bl false) H) : rNeD K (.ref a) (.ref b) H Q := by
  have sh : SeqAt.shaped (.tuple (ws.map .str)) = true := by
    obtain ⟨w1, w2⟩ := all_lay ws ok
    refine Bool.and_eq_true_iff.mpr ⟨w1, decide_eq_true ?_⟩
    simp only [PyData.depth]
    omega
  refine ⟨.tuple (ws.map .str), .tuple (ws.map .str), .tup ha (dpAll_strs ws), .tup hb (dpAll_strs ws), sh, sh, ?_⟩
  rw [SeqAt.eqv_refl _ (Bool.and_eq_true_iff.mp sh).1]
  exact k
structure KnownG (P : Program) (w : World) (K : PySem.W.Frag) (mg : Str → Option Value) (base : Heap) (CX : CXT) (k : Nat) (x : Str) (ps : List Str) (sp : Sp) (f : Addr) (fd : FuncData) : Prop where
  ok : GOk P w K mg base CX k f fd ps sp
  mg : mg x = some (.ref f)
  kp : PySem.W.keepIn K (.ref f) = true
  bi : Binds K fd ps []
abbrev lLaw : Stmt := top 65
abbrev nLaw : List Str := ["_law_script", "_law_pen_here", "_law_rows", "_law_own_root", "_law_names", "_law_house", "_law_name", "_law_thing", "_law_row_here"]
def spLw (K : PySem.W.Frag) : Sp := fun vs H Q _ => ∃ (s : Addr) (ns : List Int), vs = [.ref s] ∧ SqL K H s (ns.map V.int) ∧ ns.length ≤ 63 ∧ ∀ H', Q (.bl true) H'
theorem scLaw : FnScope nLaw ["_law_script"] (defScope lLaw) := ⟨rfl, rfl, rfl, by decide +kernel, rfl, by decide +kernel, by decide +kernel⟩
theorem ok_law {f f1 f2 f3 f4 f5 f6 f7 f8 f9 f10 f11 f12 f13 f14 f15 : Addr} {fd fd1 fd2 fd3 fd4 fd5 fd6 fd7 fd8 fd9 fd10 fd11 fd12 fd13 fd14 fd15 : FuncData} {mc u10 u12 : Value} (F : Fun K "law" "law" lLaw f fd) (B : Bn mg) (HC : PlainC K CH houseAt) (PE_ : Known P w K mg base CX0 1 "_law_pen" ["_law_script"] (spPen K) f1 fd1)
    (HR : Known P w K mg base CX0 6 "_law_house_rows" ["_law_pen_here", "_law_most"] (spHr K) f2 fd2) (RT : Known P w K mg base CX0 3 "_law_root" ["_law_pen_here", "_law_rows"] (spRt K) f3 fd3) (MHS : Known P w K mg base CX0 8 "_law_made_house" ["_law_rows", "_law_own_root"] (spMh K CF CK CH) f4 fd4)
    (LL : Known P w K mg base CX0 7 "_law_lists" ["_law_house", "_law_rows", "_law_name"] (spLl K CF CK CH) f5 fd5) (LG : Known P w K mg base CX0 7 "_law_flags" ["_law_house", "_law_rows", "_law_name"] (spLl K CF CK CH) f6 fd6) (LA : Known P w K mg base CX0 5 "_law_admits" ["_law_house", "_law_rows", "_law_name"] (spLa K CF CK CH) f7 fd7) (OK_ : Known P w K mg base CX0 3 "_law_odd_kind" ["_law_pen_here", "_law_names"] (spOk K) f8 fd8) (OO : Known P w K mg base CX0 2 "_law_one_of" ["_law_pen_here", "_law_menu"] (spOne K) f9 fd9)
    (RF : KnownG P w K mg base CX0 8 "_law_refused" ["_law_house", "_law_names", "_law_thing"] (spRf K CF CK CH) f10 fd10) (OF_ : KnownG P w K mg base CX0 6 "_law_odd_field" ["_law_house", "_law_rows", "_law_name", "_law_thing"] (spOf K CF CK CH) f11 fd11) (OH : Known P w K mg base CX0 8 "_law_other_houses" ["_law_pen_here", "_law_house", "_law_rows", "_law_own_root"] (spOh K CF CK CH) f12 fd12)
    (AM : KMt P w K mg base CH (L2N.CX P w) 3 "admitted" ["self", "target"] (spAm2 K CF CK CH CU) f13 fd13) (HL_ : KMt P w K mg base CH CX0 1 "__len__" nHl (spHl2 K CH) f14 fd14) (hlS : PySem.W.findIn K (.ref CH) "__len__" = some (some (.ref f14))) (hlF : PySem.W.isFn K (.ref f14) = true)
    (HS : KMt P w K mg base CH CX0 1 "__contains__" nHas (spHas K CF CK CH) f15 fd15) (hasIn : PySem.W.findIn K (.ref CH) "__contains__" = some (some (.ref f15))) (hasFn : PySem.W.isFn K (.ref f15) = true)
    (gH : mg "House" = some (.ref CH)) (cr : ClX.CRead K CH mc) (cv12 : ClX.CVal K CH mc "KINDS" (.int 12) u12) (cv10 : ClX.CVal K CH mc "FIELDS" (.int 10) u10) :
    GOk P w K mg base CX0 9 f fd ["_law_script"] (spLw K) := by
  refine gok_of F scLaw (fun vs H Q E h => ?_) (fun cdv A outer s H vs Q E hG hr h => ?_)
  · obtain ⟨a, ns, rfl, _⟩ := h
    rfl
  · obtain ⟨a, ns, rfl, sq, few, k⟩ := h
    have hu := hu_of hr
    refine ⟨_, 
      (pss_cons (ps_set (i := 1) scLaw.nd rfl (.inl rfl) (pe_call PE_.ok (hr.mono (by decide)) rfl PE_.mg PE_.kp PE_.bi .nil pass0 (pa_cons (pv 0) pa_nil)))
      (pss_cons (ps_set (i := 2) scLaw.nd rfl (.inl rfl) (pe_call HR.ok (hr.mono (by decide)) rfl HR.mg HR.kp HR.bi .nil pass0 (pa_cons (pv 1) (pa_cons pe_int pa_nil))))
      (pss_cons (ps_set (i := 3) scLaw.nd rfl (.inl rfl) (pe_call RT.ok (hr.mono (by decide)) rfl RT.mg RT.kp RT.bi .nil pass0 (pa_cons (pv 1) (pa_cons (pv 2) pa_nil))))
      (pss_cons (ps_setLc (i := 4) (own := [("_law_row_here", 8)]) (g := gName 8) (tt := tYes) (te := (tDGet (tVar 8) (tC (.str "name")))) rfl scLaw.nd rfl rfl (sw_true rfl rfl rfl (by decide +kernel)) (pi_list (pv 2)) (blkOk_by (N := nLaw) (sc := defScope lLaw) (by decide +kernel)) (fun _ _ _ _ _ => pg_name (i := 8) scLaw.nd rfl (Or.inl rfl)) (fun _ _ _ _ _ => pts_nil) (fun _ _ _ _ _ => (pe_dget hu (pv 8) pe_str (fun _ _ => rfl))))
      (pss_cons (ps_set (i := 5) scLaw.nd rfl (.inl rfl) (pe_call MHS.ok (hr.mono (by decide)) rfl MHS.mg MHS.kp MHS.bi .nil pass0 (pa_cons (pv 2) (pa_cons (pv 3) pa_nil))))
      (pss_cut (ps_if (PW.pt (pw_or (pt_cmpR (op_neD hr.units) (pe_fld (pv 5) rfl) (pe_callTy call_tuple_of (by rfl) B.tuple boot_ttuple (pa_cons (pv 4) pa_nil)) (nomark _)) (pw_or (pt_cmpR op_ne (pe_fld (pv 5) rfl) (pv 3) (nomark _)) (pw_or1 (pt_cmpR op_ne (pe_callB (show CallR _ (.builtin "len") (Wk.rOwnLen CH (spHl2 K CH) E0) from Wk.call_ownLen HL_.ok HL_.bi pass0 hlS hlF (hr.mono (by decide))) (by rfl) B.len PySem.boot_len (pa_cons (pv 5) pa_nil)) (pe_callB call_len_seq (by rfl) B.len PySem.boot_len (pa_cons (pv 2) pa_nil)) (nomark _)))))) 
        (pss_one (ps_ret pe_bl)) pss_nil)
      (pss_cut (ps_if (PW.pt (pw_or (pt_cmpR op_ne (ClX.pe_cval (pe_glob (v := .ref CH) (by rfl) gH rfl)) pe_int (nomark _)) (pw_or (pt_cmpR op_ne (ClX.pe_cval (pe_glob (v := .ref CH) (by rfl) gH rfl)) pe_int (nomark _)) (pw_or1 (pt_cmpR (op_neD hr.units) (pe_meth (pv 5) HC.cl AM.mt AM.ok (hr.mono (by decide)) AM.bi .nil passLN (pa_cons pe_str pa_nil)) (pv 4) (nomark _)))))) 
        (pss_one (ps_ret pe_bl)) pss_nil)
      (pss_cut (ps_for PassesOwn.leaving rfl (pi_list (pv 4)) (pg_name (i := 6) scLaw.nd rfl (Or.inl rfl)) 
        (pss_cons (ps_if (PW.pt (pw_or (pt_not (pt_val (pe_call LL.ok (hr.mono (by decide)) rfl LL.mg LL.kp LL.bi .nil pass0 (pa_cons (pv 5) (pa_cons (pv 2) (pa_cons (pv 6) pa_nil)))))) (pw_or (pt_not (pt_val (pe_call LG.ok (hr.mono (by decide)) rfl LG.mg LG.kp LG.bi .nil pass0 (pa_cons (pv 5) (pa_cons (pv 2) (pa_cons (pv 6) pa_nil)))))) (pw_or1 (pt_not (pt_val (pe_call LA.ok (hr.mono (by decide)) rfl LA.mg LA.kp LA.bi .nil pass0 (pa_cons (pv 5) (pa_cons (pv 2) (pa_cons (pv 6) pa_nil)))))))))) 
          (pss_one (ps_ret pe_bl)) pss_nil)
        (pss_one (ps_if (pt_cmpR (op_ownNotIn HS.ok HS.bi pass0 hasIn hasFn (hr.mono (by decide))) (pv 6) (pv 5) (by rfl)) 
          (pss_one (ps_ret pe_bl)) pss_nil))))
      (pss_cons (ps_set (i := 7) scLaw.nd rfl (.inl rfl) (pe_call OK_.ok (hr.mono (by decide)) rfl OK_.mg OK_.kp OK_.bi .nil pass0 (pa_cons (pv 1) (pa_cons (pv 4) pa_nil))))
      (pss_cut (ps_if (pt_not (PW.pt (pw_and (pt_val (pe_callB call_isi (by rfl) B.isi boot_isi (pa_cons (pv 7) (pa_cons (pe_bltn (v := .ty "str") (by rfl) B.str boot_tstr rfl) pa_nil)))) (pw_and1 (pt_cmpR op_in_seq (pv 7) (pv 4) (by rfl)))))) 
        (pss_one (ps_if (PW.pt (pw_or (pt_cmpR (op_ownIn HS.ok HS.bi pass0 hasIn hasFn (hr.mono (by decide))) (pv 7) (pv 5) (by rfl)) (pw_or1 (pt_not (pt_val (pe_callG hG RF.ok (hr.mono (by decide)) rfl RF.mg RF.kp RF.bi pass0 (pa_cons (pv 5) (pa_cons (pv 4) (pa_cons (pv 7) pa_nil))))))))) 
          (pss_one (ps_ret pe_bl)) pss_nil)) pss_nil)
      (pss_cons (ps_if (pt_not (pt_val (pe_callG hG OF_.ok (hr.mono (by decide)) rfl OF_.mg OF_.kp OF_.bi pass0 (pa_cons (pv 5) (pa_cons (pv 2) (pa_cons (pe_call OO.ok (hr.mono (by decide)) rfl OO.mg OO.kp OO.bi .nil pass0 (pa_cons (pv 1) (pa_cons (pv 4) pa_nil))) (pa_cons (pe_call OK_.ok (hr.mono (by decide)) rfl OK_.mg OK_.kp OK_.bi .nil pass0 (pa_cons (pv 1) (pa_cons (pv 4) pa_nil))) pa_nil))))))) 
        (pss_one (ps_ret pe_bl)) pss_nil)
      (pss_one (ps_ret (pe_call OH.ok (hr.mono (by decide)) rfl OH.mg OH.kp OH.bi .nil pass0 (pa_cons (pv 1) (pa_cons (pv 5) (pa_cons (pv 2) (pa_cons (pv 3) pa_nil)))))))))))))))))), ?_⟩
    refine ⟨_, rfl, a, ns, rfl, sq, few, fun p c H1 m s1 _ _ pa => ?_⟩
    have pn1 : Pn p c ns H1 := ⟨_, _, _, _, _, pa⟩
    refine ⟨_, rfl, p, c, ns, 6, rfl, pn1, by decide, by decide, fun l ds kn rs H2 g2 R2 _ hr2 => ?_⟩
    have ln : rs.length = kn.length := by rw [← hr2.n, List.length_map]
    have n1 : 1 ≤ rs.length := by have := hr2.k1; omega
    have n12 : rs.length ≤ 12 := by have := hr2.k6; omega
    refine ⟨_, rfl, _, rfl, p, c, l, ns, rs, rfl, g2.pn, R2.rows, by omega, hr2.free, fun root H3 g3 hroot => ?_⟩
    have R3 := (R2.go g2.pn g3).rows
    have ok := hr2.ok root hroot
    have rv := hr2.v
    have ik : ∀ x ∈ rs, IsK x.n := fun x mx => (rv x mx).n
    have nok : ∀ n ∈ rs.map (·.n), PyData.strOk n = true := fun n m => let ⟨y, my, e⟩ := List.mem_map.mp m; e ▸ (Bool.and_eq_true_iff.mp (rv y my).good.n).1
    have pn3 := (g2.trans g3).pn
    obtain ⟨us, hl, ev⟩ := id R3
    refine ⟨_, rfl, l, rfl, ⟨us, hl⟩, fun N hN => ?_⟩
    refine lc_sieve (R := cR (rRow K) H3) (R2 := rW) mR mW (fun _ => true) (fun e => e.n) (cs := rs) walk_list (by omega) (fun H' s => s.seq hl) hN (evB ev _) (fun v c H2 Rq _ _ _ kk => kk _ (Same.refl _)) ?_ ?_
    · rintro v y H5 Rq _ _ s5 r kk
      obtain ⟨d2, lo2, ws2, rfl, hd2, _⟩ := rRow_same s5 (show rRow K H3 v y from r)
      exact ⟨_, rfl, d2, _, rfl, g_name hd2, kk _ _ (Same.refl _) rfl⟩
    intro H4 zs s4 eN ez
    rw [filter_all] at ez
    cases ev_words_eq ez
    refine ⟨_, rfl, _, rfl, l, root, rs, rfl, R3.same s4, rv, ok, fun s xs H5 fs s5 ha hk ek => ?_⟩
    have ekK : Ev (rK K CF CK) H5 xs rs := ⟨ek.1, fun i x c a b => (ek.2 i x c a b).1⟩
    have R5 := R3.same (s4.trans s5)
    have pn5 := pn3.same (s4.trans s5)
    have eN5 := s5 _ _ eN
    obtain ⟨hx, tn, _, _, _, _, _, hs, htn, _⟩ := id ha.ex
    have low : ∀ {H' : Hp}, Same H5 H' → SqT K H' tn ((rs.map (·.n)).map V.str) := fun s => s.sqT htn
    have tst : PyData.strOk "any" = true := by decide +kernel
    refine ⟨fun σ H6 => σ = [some (.ref a), some (.ref p), some (.ref l), some (.str root), some (.ref N), some (.ref s), none, none, none] ∧ Same H5 H6, ?_, ?_⟩
    · refine ⟨_, rfl, s, CH, hx, _, _, rfl, hs, HC.cl, HC.no _ (by simp), (lk_h _ _ _ _ _ _ _).2.1, _, rfl, N, _, rfl, .inl ⟨SqL.of eN5, fun t ht => ?_⟩⟩
      have sT := same_new (o := HO.tup ((rs.map (·.n)).map V.str)) ht
      refine neT (low sT) (SqT.of upd_same) nok ⟨_, rfl, iteF ?_⟩
      refine ⟨_, rfl, s, CH, hx, _, _, rfl, sT _ _ hs, HC.cl, HC.no _ (by simp), (lk_h _ _ _ _ _ _ _).1, _, rfl, rfl, _, rfl, iteSameV ?_⟩
      refine ⟨_, rfl, s, hx, _, rfl, sT _ _ hs, s, hx, tn, _, _, rfl, sT _ _ hs, (lk_h _ _ _ _ _ _ _).2.1, low sT, _, rfl, by omega, by rw [List.length_map, List.length_map]; omega, ?_⟩
      refine ⟨_, rfl, l, us, rfl, .inl ((s4.trans (s5.trans sT)).seq hl), rfl, _, rfl, ?_⟩
      rw [List.length_map, List.length_map, ev.1]
      exact iteSameV ⟨rfl, sT⟩
    rintro _ H6 ⟨rfl, s6⟩
    have pn6 := pn5.same s6
    refine ⟨fun σ H7 => σ = [some (.ref a), some (.ref p), some (.ref l), some (.str root), some (.ref N), some (.ref s), none, none, none] ∧ Same H6 H7, ?_, ?_⟩
    · refine ⟨CH, _, _, _, rfl, cr, cv12, rfl, _, rfl, iteF ?_⟩
      refine ⟨CH, _, _, _, rfl, cr, cv10, rfl, _, rfl, iteF ?_⟩
      refine ⟨_, rfl, s, hx, _, rfl, s6 _ _ hs, rfl, s, .str "any", .str "any", root, rs, rfl, ha.same s6, .dat (.str _) (by decide +kernel), fun t et ht D H7 fD s7 eD => ?_, fun ne => absurd rfl ne⟩
      cases et
      have e9 : admK rs "any" = rs.map (·.n) := by
        unfold admK letB
        simp
      rw [e9] at eD
      refine ⟨_, rfl, neS (SqL.of eD) (SqL.of ((s6.trans s7) _ _ eN5)) nok ⟨_, rfl, iteF ⟨rfl, s7⟩⟩⟩
    rintro _ H7 ⟨rfl, s7⟩
    have s57 := s6.trans s7
    refine ⟨fun σ H8 => ∃ v6, σ = [some (.ref a), some (.ref p), some (.ref l), some (.str root), some (.ref N), some (.ref s), v6, none, none] ∧ Same H5 H8, ?_, ?_⟩
    · refine ⟨_, rfl, N, rfl, ⟨_, SqL.of (s57 _ _ eN5)⟩, ?_⟩
      refine for_it (walk_list (xs := (rs.map (·.n)).map V.str)) (fun i σ H' => ∃ v6, σ = [some (.ref a), some (.ref p), some (.ref l), some (.str root), some (.ref N), some (.ref s), v6, none, none] ∧ Same H5 H') ⟨none, rfl, s57⟩ (fun i σ H' _ ⟨_, _, s⟩ => SqL.of (s _ _ eN5)) ?_ ?_
      · rintro i u σ _ H8 hi ⟨v6, rfl, s8⟩ ⟨rfl, hv⟩
        obtain ⟨x, mx, rfl⟩ : ∃ x ∈ rs, u = V.str x.n := by
          obtain ⟨n, mn, rfl⟩ := List.mem_map.mp (List.mem_of_getElem? hv)
          obtain ⟨x, mx, rfl⟩ := List.mem_map.mp mn
          exact ⟨x, mx, rfl⟩
        have ox := nok _ (List.mem_map_of_mem mx)
        refine ⟨_, rfl, _, rfl, _, rfl, s, l, root, rs, x, rfl, ha.same s8, R5.same s8, rv, mx, fun H9 s9 => ⟨_, rfl, iteF ?_⟩⟩
        have s89 := s8.trans s9
        refine ⟨_, rfl, _, rfl, _, rfl, s, l, root, rs, x, rfl, ha.same s89, R5.same s89, rv, mx, fun HA sA => ⟨_, rfl, iteF ?_⟩⟩
        have s8A := s89.trans sA
        refine ⟨_, rfl, _, rfl, _, rfl, s, l, root, rs, x, rfl, ha.same s8A, R5.same s8A, rv, mx, fun HB sB => ⟨_, rfl, iteF ?_⟩⟩
        have s8B := s8A.trans sB
        refine ⟨_, rfl, _, rfl, s, hx, _, rfl, s8B _ _ hs, s, .str x.n, .str x.n, root, rs, rfl, ha.same s8B, .dat (.str _) (shaped_str ox), _, rfl, _, rfl, ?_⟩
        rw [in_house mx]
        exact iteF ⟨_, rfl, s8B⟩
      · rintro σ H8 ⟨v6, rfl, s8⟩
        exact ⟨v6, rfl, s8⟩
    rintro _ H8 ⟨v6, rfl, s8⟩
    have pn8 := pn5.same s8
    have R8 := R5.same s8
    have ha8 := ha.same s8
    have hk8 := hk.stay (stay_same s8)
    have ek8 := ekK.same (mK K CF CK) s8
    have eN8 := s8 _ _ eN5
    have ikn : ∀ z ∈ rs.map (·.n), IsK z := fun z m => let ⟨y, my, e⟩ := List.mem_map.mp m; e ▸ ik y my
    have gokA : ∀ y ∈ rs, ∀ g ∈ allF rs y, PyData.strOk g.n = true := fun y my g mg => let ⟨z, mz, h⟩ := allF_mem my mg; (field_ok ((rv z mz).fs g h).right.n).1
    refine ⟨_, rfl, _, rfl, p, c, N, ns, rs.map (·.n), rfl, pn8, SqL.of eN8, by rw [List.length_map]; omega, ikn, fun v d H9 od g9 => ?_⟩
    have pn9 := g9.pn
    have ha9 := ha8.go ik pn8 g9
    have R9 := R8.go pn8 g9
    have eN9 := g9.but _ _ (Go.ne pn8 eN8 fun x z => by cases z) eN8
    obtain ⟨hx9, _, _, _, _, _, _, hs9, _⟩ := id ha9.ex
    refine ⟨fun σ HA => σ = [some (.ref a), some (.ref p), some (.ref l), some (.str root), some (.ref N), some (.ref s), v6, some v, none] ∧ Same H9 HA, ?_, ?_⟩
    · have go : ∀ D : Ends, (∀ H', Same H9 H' → D.nx [some (.ref a), some (.ref p), some (.ref l), some (.str root), some (.ref N), some (.ref s), v6, some v, none] H') → inHouse rs d = false → (tIfS (tOr (tTest (tOp (rOwnHas false CH (spHas K CF CK CH) E0) (tVar 7) (tVar 5))) (tNot (tB (tCall (spRf K CF CK CH) [] E0 (tCons (tVar 5) (tCons (tVar 4) (tCons (tVar 7) tNil))))))) (tRet (tC (.bl false))) tNext) D [some (.ref a), some (.ref p), some (.ref l), some (.str root), some (.ref N), some (.ref s), v6, some v, none] H9 := by
        intro D kk bad
        refine ⟨_, rfl, _, rfl, s, hx9, _, rfl, hs9, s, v, d, root, rs, rfl, ha9, od.q, _, rfl, _, rfl, ?_⟩
        rw [bad]
        refine iteF ?_
        exact ⟨_, rfl, _, rfl, _, rfl, s, v, .ref N, d, root, rs, rfl, ha9, gokA, od, bad, fun H' s' => ⟨_, rfl, iteF (kk H' s')⟩⟩
      refine ⟨_, rfl, _, _, _, _, _, rfl, .ty "str", od.q.ty, kit_str d, _, rfl, ?_⟩
      cases d with
      | str z =>
        have ev0 : v = .str z := by
          have q := od.q
          cases q with
          | dat q _ => cases q; rfl
        subst ev0
        refine iteT ⟨_, rfl, _, rfl, N, _, rfl, .inl (SqL.of eN9), rfl, flat_strs _, _, rfl, ?_⟩
        rw [mem_in]
        by_cases m : z ∈ rs.map (·.n)
        · rw [decide_eq_true m]
          exact iteF ⟨rfl, Same.refl _⟩
        · rw [decide_eq_false m]
          exact iteT (go _ (fun H' s' => ⟨rfl, s'⟩) (decide_eq_false m))
      | _ => exact iteF (iteT (go _ (fun H' s' => ⟨rfl, s'⟩) rfl))
    rintro _ HA ⟨rfl, sA⟩
    have pnA := pn9.same sA
    have eNA := sA _ _ eN9
    have g8A := g9.trans (Go.of pn9 sA)
    refine ⟨_, rfl, _, rfl, _, rfl, _, rfl, ?_⟩
    dsimp (config := { proj := false }) only [tCons, L2.tC, tNil, List.append_nil]
    refine one_go pnA (SqL.of eNA) (by rw [List.length_map, List.length_map]; omega) (by rw [List.length_map, List.length_map]; omega) fun z HB mz gB => ?_
    obtain ⟨n, mn, rfl⟩ := List.mem_map.mp mz
    obtain ⟨x, mx, rfl⟩ := List.mem_map.mp mn
    have g8B := g8A.trans gB
    have eNB := gB.but _ _ (Go.ne pnA eNA fun x z => by cases z) eNA
    refine ⟨_, rfl, _, rfl, p, c, N, ns, rs.map (·.n), rfl, gB.pn, SqL.of eNB, by rw [List.length_map]; omega, ikn, fun v2 d2 HC2 od2 gC => ?_⟩
    have g8C := g8B.trans gC
    have haC := ha8.go ik pn8 g8C
    have RC := R8.go pn8 g8C
    refine ⟨s, l, v2, d2, root, rs, x, rfl, haC, RC, rv, mx, od2, fun HD sD => ⟨_, rfl, iteF ?_⟩⟩
    have g8D := g8C.trans (Go.of g8C.pn sD)
    have stD := go_stay pn8 g8D
    exact ⟨_, rfl, _, rfl, _, rfl, _, rfl, p, c, s, l, ns, root, rs, xs, rfl, g8D.pn, ha8.go ik pn8 g8D, hk8.stay stD, ⟨ek8.1, fun i x c a b => rK_stay stD (ek8.2 i x c a b)⟩, R8.go pn8 g8D, rv, hr2.ok, fun H' _ => k H'⟩
end
end Wh
set_option Elab.async false
set_option linter.all false
set_option maxRecDepth 100000
set_option maxHeartbeats 0
namespace Wh
open PySem PySem.Spec PyProof.Rows L2
open Wp hiding Same.refl Same.trans same_new boot_all run_own
/-! ## the head: facts by names -/

abbrev spLaw := spLw
structure ShI (st : Stmt) (f : Str) : Prop where
  S : FnScope ["self", f] ["self", f] (defScope st)
  hs : (defScope st).names.lookup ("self" : Str) = some NameKind.local
  hl : (defScope st).names.lookup f = some NameKind.local
  hd : (f == ("__debug__" : Str)) = false
  hc : (f == ("__classdict__" : Str)) = false
theorem vals_take : ∀ (n : Nat) {vs : List V} {us : List Value}, Vals vs us → Vals (vs.take n) (us.take n)
  | 0, _, _, _ => .nil
  | _ + 1, _, _, .nil => .nil
  | n + 1, _, _, .cons a b => .cons a (vals_take n b)
theorem vals_drop : ∀ (n : Nat) {vs : List V} {us : List Value}, Vals vs us → Vals (vs.drop n) (us.drop n)
  | 0, _, _, h => h
  | _ + 1, _, _, .nil => .nil
  | n + 1, _, _, .cons _ b => vals_drop n b
/-- a law: F gives the written part, the function object, the promise over every base -/
theorem walk_GE {l : PySem.W.OpenLaw} {n k : Nat} {q : Program} {loose : List Str} {XP : (Str → Option Value) → Heap → Prop} {YP : World → Heap → Prop} {d : DefRec} {CX : CXT} {x : Str}
    (hn : l.most = some n) (hn2 : n ≤ sizeLine) (hdf : d.params.defaults = []) (hr : Room k callerA)
    (F : ∀ (w : World) (mg : Str → Option Value) (fa : Addr) (h : Heap), YP w h → h.Ns mainGlobals mg → mg d.name = some (.ref fa) →
      ∃ (K : PySem.W.Frag) (fd : FuncData) (sp : Sp), K.In h ∧ (∀ (s : Shared) (u : Value), BindsTo s fd ⟨[u], []⟩ [(x, u)]) ∧
        (∀ (H : Hp) (a : Addr) (ns : List Int), ns.length ≤ n → Only H → SqL K H a (ns.map V.int) → sp [.ref a] H (fun v _ => v = .bl true) fun _ _ _ => False) ∧
        ∀ base : Heap, K.In base → base.Ns mainGlobals mg → GOk l.prog w K mg base CX k fa fd [x] sp)
    (hCX : ∀ (H : Hp) (s : Shared) (e : Value) (s' : Shared), CX [] H s (fun _ _ _ => False) e s' → False) :
    PySem.W.WalkO q loose XP YP l.row.toRowW d [] (fun f vs => PySem.call f vs) := by
  refine Att.attach_call hn hdf fun w s₀ s₁ mg mb fa o pm cd doc a vs ns G Y ho hd hcd hmg hobj hints hlen hg => ?_
  obtain ⟨K, fd, sp, KX, hb, hsp, hF⟩ := F w mg fa _ Y G.T.g hmg
  exact law_start KX G.T.g G.T.b G.T.builtins G.T.nolimit hg hobj hints (Nat.le_trans hlen hn2) hr hF hb (fun H hO hS => hsp H a ns hlen hO hS) fun H e s' => hCX H s₁ e s'

theorem facts {P : Program} {w : World} {K : PySem.W.Frag} {h : Heap} {mg : Str → Option Value} {f : Addr} (X : K.In h) (G : h.Ns mainGlobals mg) (hfa : mg ("law" : Str) = some (.ref f)) (cx : obsX K = valX) :
    ∃ fd : FuncData, (∀ (s : Shared) (v : Value), BindsTo s fd ⟨[v], []⟩ [("_law_script", v)]) ∧ ∀ base : Heap, K.In base → base.Ns mainGlobals mg → GOk P w K mg base CX0 9 f fd ["_law_script"] (spLaw K) := by
  have cb : ∀ b ∈ exs K, b = true := fun b hb => List.all_eq_true.mp (congrArg (fun z : AlX => z.1) cx) b hb
  have ex := fun (i : Nat) (b : Bool) (e : (exs K)[i]? = some b) => cb b (List.mem_of_getElem? e)
  have c : He.SaysD fa fn K := congrArg (fun z : AlX => z.2) cx
  have g := fun (i : Nat) (x : Str) (e : fa[i]? = some (.glo x)) => He.glo_ok (x := x) X G (c.fact i (f := .glo x) e)
  have fr := fun (i : Nat) (x : Str) (e : fa[i]? = some (.free x)) => He.free_ok (x := x) X G (c.fact i (f := .free x) e)
  obtain ⟨fd_isInt, F_isInt⟩ := c.def_ 0 (d := dd "is_integer" 12) rfl
  have b_isInt := FunD.bindsN (ps := ["value"]) F_isInt fun _ _ _ _ _ _ us hl => match us, hl with | [_], _ => rfl
  obtain ⟨fd_isWord, F_isWord⟩ := c.def_ 1 (d := dd "is_word" 13) rfl
  have b_isWord := FunD.bindsN (ps := ["value", "most"]) F_isWord fun _ _ _ _ _ _ us hl => match us, hl with | [_, _], _ => rfl
  obtain ⟨fd_isField, F_isField⟩ := c.def_ 2 (d := dd "is_field_name" 14) rfl
  have b_isField := FunD.bindsN (ps := ["value"]) F_isField fun _ _ _ _ _ _ us hl => match us, hl with | [_], _ => rfl
  obtain ⟨fd_isKind, F_isKind⟩ := c.def_ 3 (d := dd "is_kind_name" 15) rfl
  have b_isKind := FunD.bindsN (ps := ["value"]) F_isKind fun _ _ _ _ _ _ us hl => match us, hl with | [_], _ => rfl
  obtain ⟨fd_isDef, F_isDef⟩ := c.def_ 4 (d := dd "is_default" 16) rfl
  have b_isDef := FunD.bindsN (ps := ["value"]) F_isDef fun _ _ _ _ _ _ us hl => match us, hl with | [_], _ => rfl
  obtain ⟨fd_diff, F_diff⟩ := c.def_ 5 (d := dd "are_different" 17) rfl
  have b_diff := FunD.bindsN (ps := ["names"]) F_diff fun _ _ _ _ _ _ us hl => match us, hl with | [_], _ => rfl
  obtain ⟨fd_fits, F_fits⟩ := c.def_ 6 (d := dd "_fits_mode" 22) rfl
  have b_fits := FunD.bindsN (ps := ["mode", "target", "default"]) F_fits fun _ _ _ _ _ _ us hl => match us, hl with | [_, _, _], _ => rfl
  obtain ⟨fd_was, F_was⟩ := c.def_ 7 (d := dd "_is_was" 23) rfl
  have b_was := FunD.bindsN (ps := ["name", "was"]) F_was fun _ _ _ _ _ _ us hl => match us, hl with | [_, _], _ => rfl
  obtain ⟨fd_FI, F_FI⟩ := c.def_ 8 (d := dm "Field" "__init__" "Field.__init__" 24 0 [("target", .non), ("default", .int 0), ("was", .adr (Hb.kwdAt ("Field", some "__init__") "was"))]) rfl
  obtain ⟨fd_AF, F_AF⟩ := c.def_ 9 (d := dd "_are_fields" 25) rfl
  have b_AF := FunD.bindsN (ps := ["fields"]) F_AF fun _ _ _ _ _ _ us hl => match us, hl with | [_], _ => rfl
  obtain ⟨fd_CB, F_CB⟩ := c.def_ 10 (d := dd "_can_be" 26) rfl
  have b_CB := FunD.bindsN (ps := ["base", "frozen", "heirs", "key", "registered"]) F_CB fun _ _ _ _ _ _ us hl => match us, hl with | [_, _, _, _, _], _ => rfl
  obtain ⟨fd_KI, F_KI⟩ := c.def_ 11 (d := dm "Kind" "__init__" "Kind.__init__" 27 0 [("base", .non), ("frozen", .bl false), ("heirs", .bl false), ("key", .non), ("registered", .bl false)]) rfl
  obtain ⟨fd_FE, F_FE⟩ := c.def_ 12 (d := dm "Field" "__eq__" "Field.__eq__" 24 1 []) rfl
  have b_FE := FunD.bindsN (ps := ["self", "other"]) F_FE fun _ _ _ _ _ _ us hl => match us, hl with | [_, _], _ => rfl
  obtain ⟨fd_KE, F_KE⟩ := c.def_ 13 (d := dm "Kind" "__eq__" "Kind.__eq__" 27 1 []) rfl
  have b_KE := FunD.bindsN (ps := ["self", "other"]) F_KE fun _ _ _ _ _ _ us hl => match us, hl with | [_, _], _ => rfl
  obtain ⟨fd_BF, F_BF⟩ := c.def_ 14 (d := dm "BadField" "__init__" "BadField.__init__" 2 0 []) rfl
  have b_BF := FunD.bindsN (ps := ["self", "name"]) F_BF fun _ _ _ _ _ _ us hl => match us, hl with | [_, _], _ => rfl
  obtain ⟨fd_BK, F_BK⟩ := c.def_ 15 (d := dm "BadKind" "__init__" "BadKind.__init__" 3 0 []) rfl
  have b_BK := FunD.bindsN (ps := ["self", "name"]) F_BK fun _ _ _ _ _ _ us hl => match us, hl with | [_, _], _ => rfl
  obtain ⟨fd_BH, F_BH⟩ := c.def_ 16 (d := dm "BadHouse" "__init__" "BadHouse.__init__" 4 0 []) rfl
  have b_BH := FunD.bindsN (ps := ["self", "name"]) F_BH fun _ _ _ _ _ _ us hl => match us, hl with | [_, _], _ => rfl
  obtain ⟨fd_UK, F_UK⟩ := c.def_ 17 (d := dm "UnknownKind" "__init__" "UnknownKind.__init__" 5 0 []) rfl
  have b_UK := FunD.bindsN (ps := ["self", "name"]) F_UK fun _ _ _ _ _ _ us hl => match us, hl with | [_, _], _ => rfl
  obtain ⟨fd_UF, F_UF⟩ := c.def_ 18 (d := dm "UnknownField" "__init__" "UnknownField.__init__" 6 0 []) rfl
  have b_UF := FunD.bindsN (ps := ["self", "kind", "name"]) F_UF fun _ _ _ _ _ _ us hl => match us, hl with | [_, _, _], _ => rfl
  obtain ⟨fd_all, F_all⟩ := c.def_ 19 (d := dd "_all_fields" 30) rfl
  have b_all := FunD.bindsN (ps := ["kind", "by_name"]) F_all fun _ _ _ _ _ _ us hl => match us, hl with | [_, _], _ => rfl
  obtain ⟨fd_chk, F_chk⟩ := c.def_ 20 (d := dd "_check_kinds" 28) rfl
  have b_chk := FunD.bindsN (ps := ["kinds"]) F_chk fun _ _ _ _ _ _ us hl => match us, hl with | [_], _ => rfl
  obtain ⟨fd_aln, F_aln⟩ := c.def_ 21 (d := dd "_holds_alone" 29) rfl
  have b_aln := FunD.bindsN (ps := ["kind", "earlier", "names"]) F_aln fun _ _ _ _ _ _ us hl => match us, hl with | [_, _, _], _ => rfl
  obtain ⟨fd_far, F_far⟩ := c.def_ 22 (d := dd "_far_from" 31) rfl
  have b_far := FunD.bindsN (ps := ["name", "leads"]) F_far fun _ _ _ _ _ _ us hl => match us, hl with | [_, _], _ => rfl
  obtain ⟨fd_lt, F_lt⟩ := c.def_ 23 (d := dm "House" "_lets" "House._lets" 32 7 []) rfl
  have b_lt := FunD.bindsN (ps := ["self", "target", "name"]) F_lt fun _ _ _ _ _ _ us hl => match us, hl with | [_, _, _], _ => rfl
  obtain ⟨fd_ld, F_ld⟩ := c.def_ 24 (d := dm "House" "_leads_from" "House._leads_from" 32 6 []) rfl
  have b_ld := FunD.bindsN (ps := ["self", "name"]) F_ld fun _ _ _ _ _ _ us hl => match us, hl with | [_, _], _ => rfl
  obtain ⟨fd_fz, F_fz⟩ := c.def_ 25 (d := dm "House" "_check_frozen" "House._check_frozen" 32 8 []) rfl
  have b_fz := FunD.bindsN (ps := ["self"]) F_fz fun _ _ _ _ _ _ us hl => match us, hl with | [_], _ => rfl
  obtain ⟨fd_HI, F_HI⟩ := c.def_ 26 (d := dm "House" "__init__" "House.__init__" 32 2 []) rfl
  have b_HI := FunD.bindsN (ps := ["self", "root", "kinds"]) F_HI fun _ _ _ _ _ _ us hl => match us, hl with | [_, _, _], _ => rfl
  obtain ⟨fd_HE, F_HE⟩ := c.def_ 27 (d := dm "House" "__eq__" "House.__eq__" 32 3 []) rfl
  have b_HE := FunD.bindsN (ps := ["self", "other"]) F_HE fun _ _ _ _ _ _ us hl => match us, hl with | [_, _], _ => rfl
  obtain ⟨fd_hl, F_hl⟩ := c.def_ 28 (d := dm "House" "__len__" "House.__len__" 32 4 []) rfl
  have b_hl := FunD.bindsN (ps := ["self"]) F_hl fun _ _ _ _ _ _ us hl => match us, hl with | [_], _ => rfl
  obtain ⟨fd_has, F_has⟩ := c.def_ 29 (d := dm "House" "__contains__" "House.__contains__" 32 5 []) rfl
  have b_has := FunD.bindsN (ps := ["self", "x"]) F_has fun _ _ _ _ _ _ us hl => match us, hl with | [_, _], _ => rfl
  obtain ⟨fd_ck, F_ck⟩ := c.def_ 30 (d := dm "House" "_check" "House._check" 32 9 []) rfl
  have b_ck := FunD.bindsN (ps := ["self", "kind"]) F_ck fun _ _ _ _ _ _ us hl => match us, hl with | [_, _], _ => rfl
  obtain ⟨fd_kd, F_kd⟩ := c.def_ 31 (d := dm "House" "kind_named" "House.kind_named" 32 10 []) rfl
  have b_kd := FunD.bindsN (ps := ["self", "kind"]) F_kd fun _ _ _ _ _ _ us hl => match us, hl with | [_, _], _ => rfl
  obtain ⟨fd_fo, F_fo⟩ := c.def_ 32 (d := dm "House" "fields_of" "House.fields_of" 32 11 []) rfl
  have b_fo := FunD.bindsN (ps := ["self", "kind"]) F_fo fun _ _ _ _ _ _ us hl => match us, hl with | [_, _], _ => rfl
  obtain ⟨fd_fd, F_fd⟩ := c.def_ 33 (d := dm "House" "field_of" "House.field_of" 32 12 []) rfl
  have b_fd := FunD.bindsN (ps := ["self", "kind", "name"]) F_fd fun _ _ _ _ _ _ us hl => match us, hl with | [_, _, _], _ => rfl
  obtain ⟨fd_mo, F_mo⟩ := c.def_ 34 (d := dm "House" "marks_of" "House.marks_of" 32 13 []) rfl
  have b_mo := FunD.bindsN (ps := ["self", "kind"]) F_mo fun _ _ _ _ _ _ us hl => match us, hl with | [_, _], _ => rfl
  obtain ⟨fd_so, F_so⟩ := c.def_ 35 (d := dm "House" "slots_of" "House.slots_of" 32 14 []) rfl
  have b_so := FunD.bindsN (ps := ["self", "kind"]) F_so fun _ _ _ _ _ _ us hl => match us, hl with | [_, _], _ => rfl
  obtain ⟨fd_lh, F_lh⟩ := c.def_ 36 (d := dm "House" "lets_heirs" "House.lets_heirs" 32 15 []) rfl
  have b_lh := FunD.bindsN (ps := ["self", "kind"]) F_lh fun _ _ _ _ _ _ us hl => match us, hl with | [_, _], _ => rfl
  obtain ⟨fd_iz, F_iz⟩ := c.def_ 37 (d := dm "House" "is_frozen" "House.is_frozen" 32 16 []) rfl
  have b_iz := FunD.bindsN (ps := ["self", "kind"]) F_iz fun _ _ _ _ _ _ us hl => match us, hl with | [_, _], _ => rfl
  obtain ⟨fd_ir, F_ir⟩ := c.def_ 38 (d := dm "House" "is_registered" "House.is_registered" 32 17 []) rfl
  have b_ir := FunD.bindsN (ps := ["self", "kind"]) F_ir fun _ _ _ _ _ _ us hl => match us, hl with | [_, _], _ => rfl
  obtain ⟨fd_il, F_il⟩ := c.def_ 39 (d := dm "House" "is_leaf" "House.is_leaf" 32 18 []) rfl
  have b_il := FunD.bindsN (ps := ["self", "kind"]) F_il fun _ _ _ _ _ _ us hl => match us, hl with | [_, _], _ => rfl
  obtain ⟨fd_im, F_im⟩ := c.def_ 40 (d := dm "House" "is_movable" "House.is_movable" 32 19 []) rfl
  have b_im := FunD.bindsN (ps := ["self", "kind"]) F_im fun _ _ _ _ _ _ us hl => match us, hl with | [_, _], _ => rfl
  obtain ⟨fd_ko, F_ko⟩ := c.def_ 41 (d := dm "House" "key_of" "House.key_of" 32 20 []) rfl
  have b_ko := FunD.bindsN (ps := ["self", "kind"]) F_ko fun _ _ _ _ _ _ us hl => match us, hl with | [_, _], _ => rfl
  obtain ⟨fd_ho, F_ho⟩ := c.def_ 42 (d := dm "House" "heirs_of" "House.heirs_of" 32 21 []) rfl
  have b_ho := FunD.bindsN (ps := ["self", "kind"]) F_ho fun _ _ _ _ _ _ us hl => match us, hl with | [_, _], _ => rfl
  obtain ⟨fd_am, F_am⟩ := c.def_ 43 (d := dm "House" "admitted" "House.admitted" 32 22 []) rfl
  have b_am := FunD.bindsN (ps := ["self", "target"]) F_am fun _ _ _ _ _ _ us hl => match us, hl with | [_, _], _ => rfl
  obtain ⟨fd_as, F_as⟩ := c.def_ 44 (d := dm "House" "admits" "House.admits" 32 23 []) rfl
  have b_as := FunD.bindsN (ps := ["self", "target", "kind"]) F_as fun _ _ _ _ _ _ us hl => match us, hl with | [_, _, _], _ => rfl
  obtain ⟨fd_le, F_le⟩ := c.def_ 45 (d := dm "House" "leads" "House.leads" 32 24 []) rfl
  have b_le := FunD.bindsN (ps := ["self", "kind"]) F_le fun _ _ _ _ _ _ us hl => match us, hl with | [_, _], _ => rfl
  obtain ⟨fd_lf, F_lf⟩ := c.def_ 46 (d := dm "House" "leads_far" "House.leads_far" 32 25 []) rfl
  have b_lf := FunD.bindsN (ps := ["self", "kind"]) F_lf fun _ _ _ _ _ _ us hl => match us, hl with | [_, _], _ => rfl
  obtain ⟨fd_wk, F_wk⟩ := c.def_ 47 (d := dm "House" "with_kinds" "House.with_kinds" 32 26 [("root", .non)]) rfl
  obtain ⟨fd_pen, F_pen⟩ := c.def_ 48 (d := dd "_law_pen" 34) rfl
  have b_pen := FunD.bindsN (ps := ["_law_script"]) F_pen fun _ _ _ _ _ _ us hl => match us, hl with | [_], _ => rfl
  obtain ⟨fd_take, F_take⟩ := c.def_ 49 (d := dd "_law_take" 35) rfl
  have b_take := FunD.bindsN (ps := ["_law_pen_here", "_law_bound"]) F_take fun _ _ _ _ _ _ us hl => match us, hl with | [_, _], _ => rfl
  obtain ⟨fd_one, F_one⟩ := c.def_ 50 (d := dd "_law_one_of" 36) rfl
  have b_one := FunD.bindsN (ps := ["_law_pen_here", "_law_menu"]) F_one fun _ _ _ _ _ _ us hl => match us, hl with | [_, _], _ => rfl
  obtain ⟨fd_word, F_word⟩ := c.def_ 51 (d := dd "_law_word" 38) rfl
  have b_word := FunD.bindsN (ps := ["_law_pen_here", "_law_place", "_law_index", "_law_plain", "_law_most"]) F_word fun _ _ _ _ _ _ us hl => match us, hl with | [_, _, _, _, _], _ => rfl
  obtain ⟨fd_words, F_words⟩ := c.def_ 52 (d := dd "_law_words" 39) rfl
  have b_words := FunD.bindsN (ps := ["_law_pen_here", "_law_count", "_law_most"]) F_words fun _ _ _ _ _ _ us hl => match us, hl with | [_, _, _], _ => rfl
  obtain ⟨fd_kns, F_kns⟩ := c.def_ 53 (d := dd "_law_kind_names" 40) rfl
  have b_kns := FunD.bindsN (ps := ["_law_pen_here", "_law_count"]) F_kns fun _ _ _ _ _ _ us hl => match us, hl with | [_, _], _ => rfl
  obtain ⟨fd_Rw, F_Rw⟩ := c.def_ 54 (d := dd "_law_row" 41) rfl
  have b_Rw := FunD.bindsN (ps := ["_law_rows", "_law_name"]) F_Rw fun _ _ _ _ _ _ us hl => match us, hl with | [_, _], _ => rfl
  obtain ⟨fd_Af, F_Af⟩ := c.def_ 55 (d := dd "_law_all_fields" 42) rfl
  have b_Af := FunD.bindsN (ps := ["_law_rows", "_law_name"]) F_Af fun _ _ _ _ _ _ us hl => match us, hl with | [_, _], _ => rfl
  obtain ⟨fd_Ad, F_Ad⟩ := c.def_ 56 (d := dd "_law_admitted" 43) rfl
  have b_Ad := FunD.bindsN (ps := ["_law_rows", "_law_own_target"]) F_Ad fun _ _ _ _ _ _ us hl => match us, hl with | [_, _], _ => rfl
  obtain ⟨fd_Le, F_Le⟩ := c.def_ 57 (d := dd "_law_leads" 44) rfl
  have b_Le := FunD.bindsN (ps := ["_law_rows", "_law_name"]) F_Le fun _ _ _ _ _ _ us hl => match us, hl with | [_, _], _ => rfl
  obtain ⟨fd_Fr, F_Fr⟩ := c.def_ 58 (d := dd "_law_leads_far" 45) rfl
  have b_Fr := FunD.bindsN (ps := ["_law_rows", "_law_name"]) F_Fr fun _ _ _ _ _ _ us hl => match us, hl with | [_, _], _ => rfl
  obtain ⟨fd_Ws, F_Ws⟩ := c.def_ 59 (d := dd "_law_was" 46) rfl
  have b_Ws := FunD.bindsN (ps := ["_law_pen_here", "_law_name", "_law_pool"]) F_Ws fun _ _ _ _ _ _ us hl => match us, hl with | [_, _, _], _ => rfl
  obtain ⟨fd_Fl, F_Fl⟩ := c.def_ 60 (d := dd "_law_field" 47) rfl
  have b_Fl := FunD.bindsN (ps := ["_law_pen_here", "_law_name", "_law_names", "_law_pool", "_law_leaf"]) F_Fl fun _ _ _ _ _ _ us hl => match us, hl with | [_, _, _, _, _], _ => rfl
  obtain ⟨fd_Fv, F_Fv⟩ := c.def_ 61 (d := dd "_law_flavour" 48) rfl
  have b_Fv := FunD.bindsN (ps := ["_law_pen_here", "_law_rows"]) F_Fv fun _ _ _ _ _ _ us hl => match us, hl with | [_, _], _ => rfl
  obtain ⟨fd_Nr, F_Nr⟩ := c.def_ 62 (d := dd "_law_new_row" 49) rfl
  have b_Nr := FunD.bindsN (ps := ["_law_pen_here", "_law_rows", "_law_names", "_law_pool"]) F_Nr fun _ _ _ _ _ _ us hl => match us, hl with | [_, _, _, _], _ => rfl
  obtain ⟨fd_Hr, F_Hr⟩ := c.def_ 63 (d := dd "_law_house_rows" 50) rfl
  have b_Hr := FunD.bindsN (ps := ["_law_pen_here", "_law_most"]) F_Hr fun _ _ _ _ _ _ us hl => match us, hl with | [_, _], _ => rfl
  obtain ⟨fd_Rt, F_Rt⟩ := c.def_ 64 (d := dd "_law_root" 51) rfl
  have b_Rt := FunD.bindsN (ps := ["_law_pen_here", "_law_rows"]) F_Rt fun _ _ _ _ _ _ us hl => match us, hl with | [_, _], _ => rfl
  obtain ⟨fd_Mf, F_Mf⟩ := c.def_ 65 (d := dd "_law_made_field" 52) rfl
  have b_Mf := FunD.bindsN (ps := ["_law_field_here"]) F_Mf fun _ _ _ _ _ _ us hl => match us, hl with | [_], _ => rfl
  obtain ⟨fd_Mk, F_Mk⟩ := c.def_ 66 (d := dd "_law_made_kind" 53) rfl
  have b_Mk := FunD.bindsN (ps := ["_law_row_here"]) F_Mk fun _ _ _ _ _ _ us hl => match us, hl with | [_], _ => rfl
  obtain ⟨fd_Mh, F_Mh⟩ := c.def_ 67 (d := dd "_law_made_house" 54) rfl
  have b_Mh := FunD.bindsN (ps := ["_law_rows", "_law_own_root"]) F_Mh fun _ _ _ _ _ _ us hl => match us, hl with | [_, _], _ => rfl
  obtain ⟨fd_Tr, F_Tr⟩ := c.def_ 68 (d := dd "_law_truth" 56) rfl
  have b_Tr := FunD.bindsN (ps := ["_law_told", "_law_due"]) F_Tr fun _ _ _ _ _ _ us hl => match us, hl with | [_, _], _ => rfl
  obtain ⟨fd_Ii, F_Ii⟩ := c.def_ 69 (d := dd "_law_is_integer" 37) rfl
  have b_Ii := FunD.bindsN (ps := ["_law_thing"]) F_Ii fun _ _ _ _ _ _ us hl => match us, hl with | [_], _ => rfl
  obtain ⟨fd_Fsh, F_Fsh⟩ := c.def_ 70 (d := dd "_law_field_shows" 57) rfl
  have b_Fsh := FunD.bindsN (ps := ["_law_field_here", "_law_due"]) F_Fsh fun _ _ _ _ _ _ us hl => match us, hl with | [_, _], _ => rfl
  obtain ⟨fd_La, F_La⟩ := c.def_ 71 (d := dd "_law_admits" 60) rfl
  have b_La := FunD.bindsN (ps := ["_law_house", "_law_rows", "_law_name"]) F_La fun _ _ _ _ _ _ us hl => match us, hl with | [_, _, _], _ => rfl
  obtain ⟨fd_Ll, F_Ll⟩ := c.def_ 72 (d := dd "_law_lists" 58) rfl
  have b_Ll := FunD.bindsN (ps := ["_law_house", "_law_rows", "_law_name"]) F_Ll fun _ _ _ _ _ _ us hl => match us, hl with | [_, _, _], _ => rfl
  obtain ⟨fd_Lg, F_Lg⟩ := c.def_ 73 (d := dd "_law_flags" 59) rfl
  have b_Lg := FunD.bindsN (ps := ["_law_house", "_law_rows", "_law_name"]) F_Lg fun _ _ _ _ _ _ us hl => match us, hl with | [_, _, _], _ => rfl
  obtain ⟨fd_Lc, F_Lc⟩ := c.def_ 74 (d := dd "_law_call" 61) rfl
  have b_Lc := FunD.bindsN (ps := ["_law_house", "_law_way", "_law_thing"]) F_Lc fun _ _ _ _ _ _ us hl => match us, hl with | [_, _, _], _ => rfl
  obtain ⟨fd_Ok, F_Ok⟩ := c.def_ 75 (d := dd "_law_odd_kind" 55) rfl
  have b_Ok := FunD.bindsN (ps := ["_law_pen_here", "_law_names"]) F_Ok fun _ _ _ _ _ _ us hl => match us, hl with | [_, _], _ => rfl
  obtain ⟨fd_Rf, F_Rf⟩ := c.def_ 76 (d := dd "_law_refused" 62) rfl
  have b_Rf := FunD.bindsN (ps := ["_law_house", "_law_names", "_law_thing"]) F_Rf fun _ _ _ _ _ _ us hl => match us, hl with | [_, _, _], _ => rfl
  obtain ⟨fd_Of, F_Of⟩ := c.def_ 77 (d := dd "_law_odd_field" 63) rfl
  have b_Of := FunD.bindsN (ps := ["_law_house", "_law_rows", "_law_name", "_law_thing"]) F_Of fun _ _ _ _ _ _ us hl => match us, hl with | [_, _, _, _], _ => rfl
  obtain ⟨fd_Oh, F_Oh⟩ := c.def_ 78 (d := dd "_law_other_houses" 64) rfl
  have b_Oh := FunD.bindsN (ps := ["_law_pen_here", "_law_house", "_law_rows", "_law_own_root"]) F_Oh fun _ _ _ _ _ _ us hl => match us, hl with | [_, _, _, _], _ => rfl
  obtain ⟨fd_law, F_law⟩ := c.def_ 79 (d := dd "law" 65) rfl
  have bLaw := FunD.bindsA (ps := ["_law_script"]) F_law fun _ _ _ _ _ _ us hl => match us, hl with | [_], _ => rfl
  have eL := hfa.symm.trans (g 45 "law" rfl)
  cases eL
  refine ⟨fd_law, fun s v => bLaw s [v] rfl, fun base _ _ => ?_⟩
  have B : Bn mg := ⟨fr 54 "isinstance" rfl, fr 55 "int" rfl, fr 56 "bool" rfl, fr 57 "str" rfl, fr 58 "len" rfl, fr 59 "list" rfl, fr 60 "tuple" rfl, fr 61 "all" rfl, fr 62 "set" rfl, fr 63 "repr" rfl, fr 64 "range" rfl⟩
  have blt : Blt mg := ⟨B.int, B.len, B.list⟩
  have an : mg "any" = none := fr 65 "any" rfl
  have C : Cn mg := by
    obtain ⟨t1, e1⟩ := He.str_ok (x := "SMALL") (z := smallS) X G (c.fact 89 (f := .str "SMALL" smallS) rfl)
    obtain ⟨t2, e2⟩ := He.str_ok (x := "LARGE") (z := largeS) X G (c.fact 90 (f := .str "LARGE" largeS) rfl)
    obtain ⟨t3, e3⟩ := He.int_ok (x := "NAME_LETTERS") (i := 8) X G (c.fact 91 (f := .int "NAME_LETTERS" 8) rfl)
    obtain ⟨t4, e4⟩ := He.int_ok (x := "DEFAULT_BOUND") (i := 1000000000000) X G (c.fact 92 (f := .int "DEFAULT_BOUND" 1000000000000) rfl)
    obtain ⟨t5, e5⟩ := He.str_ok (x := "ANY") (z := "any") X G (c.fact 93 (f := .str "ANY" "any") rfl)
    obtain ⟨t6, e6⟩ := He.int_ok (x := "OLD_NAMES") (i := 2) X G (c.fact 94 (f := .int "OLD_NAMES" 2) rfl)
    exact ⟨⟨_, e1, ⟨t1, rfl⟩⟩, ⟨_, e2, ⟨t2, rfl⟩⟩, ⟨_, e3, ⟨t3, rfl⟩⟩, ⟨_, e4, ⟨t4, rfl⟩⟩, ⟨_, e5, ⟨t5, rfl⟩⟩, ⟨_, e6, ⟨t6, rfl⟩⟩⟩
  have gA : ∃ u, mg "ANY" = some u ∧ RelV (.str "any") u := by
    obtain ⟨t5, e5⟩ := He.str_ok (x := "ANY") (z := "any") X G (c.fact 93 (f := .str "ANY" "any") rfl)
    exact ⟨_, e5, ⟨t5, rfl⟩⟩
  have mo : Mo K mg := ⟨He.ga K "SLOT_MODES", default, [], 0, (g 134 "SLOT_MODES" rfl), fun H => Hb.tupB_ok (ex 0 _ rfl) H⟩
  have gF := (g 46 "Field" rfl)
  have gK := (g 47 "Kind" rfl)
  have gH := (g 48 "House" rfl)
  have GAF := (g 21 "_law_all_fields" rfl)
  have pF : PlainC K (He.ga K "Field") ["name", "mode", "target", "default", "was"] := ⟨He.cls_ok (c.fact 95 (f := .cls "Field") rfl), fun m hm => by
    simp only [List.mem_cons, List.not_mem_nil, or_false] at hm
    rcases hm with rfl | rfl | rfl | rfl | rfl
    · exact He.noat_ok (c.fact 98 (f := .noat "Field" "name") rfl)
    · exact He.noat_ok (c.fact 99 (f := .noat "Field" "mode") rfl)
    · exact He.noat_ok (c.fact 100 (f := .noat "Field" "target") rfl)
    · exact He.noat_ok (c.fact 101 (f := .noat "Field" "default") rfl)
    · exact He.noat_ok (c.fact 102 (f := .noat "Field" "was") rfl)⟩
  have pK : PlainC K (He.ga K "Kind") ["name", "fields", "base", "frozen", "heirs", "key", "registered"] := ⟨He.cls_ok (c.fact 96 (f := .cls "Kind") rfl), fun m hm => by
    simp only [List.mem_cons, List.not_mem_nil, or_false] at hm
    rcases hm with rfl | rfl | rfl | rfl | rfl | rfl | rfl
    · exact He.noat_ok (c.fact 103 (f := .noat "Kind" "name") rfl)
    · exact He.noat_ok (c.fact 104 (f := .noat "Kind" "fields") rfl)
    · exact He.noat_ok (c.fact 105 (f := .noat "Kind" "base") rfl)
    · exact He.noat_ok (c.fact 106 (f := .noat "Kind" "frozen") rfl)
    · exact He.noat_ok (c.fact 107 (f := .noat "Kind" "heirs") rfl)
    · exact He.noat_ok (c.fact 108 (f := .noat "Kind" "key") rfl)
    · exact He.noat_ok (c.fact 109 (f := .noat "Kind" "registered") rfl)⟩
  have pH : PlainC K (He.ga K "House") houseAt := ⟨He.cls_ok (c.fact 97 (f := .cls "House") rfl), fun m hm => by
    simp only [List.mem_cons, List.not_mem_nil, or_false] at hm
    rcases hm with rfl | rfl | rfl | rfl | rfl | rfl | rfl
    · exact He.noat_ok (c.fact 110 (f := .noat "House" "root") rfl)
    · exact He.noat_ok (c.fact 111 (f := .noat "House" "names") rfl)
    · exact He.noat_ok (c.fact 112 (f := .noat "House" "_kinds") rfl)
    · exact He.noat_ok (c.fact 113 (f := .noat "House" "_by_name") rfl)
    · exact He.noat_ok (c.fact 114 (f := .noat "House" "_fields") rfl)
    · exact He.noat_ok (c.fact 115 (f := .noat "House" "_leads") rfl)
    · exact He.noat_ok (c.fact 116 (f := .noat "House" "_far") rfl)⟩
  have oF : OwnC K (He.ga K "Field") := Hb.ownB_ok pF.cl (ex 1 _ rfl)
  have oK : OwnC K (He.ga K "Kind") := Hb.ownB_ok pK.cl (ex 2 _ rfl)
  obtain ⟨crd, u10, cvl⟩ := Hb.conB_ok (ex 3 _ rfl)
  obtain ⟨_, u12, cvk⟩ := Hb.conB_ok (ex 4 _ rfl)
  have nFH : He.ga K "Field" ≠ He.ga K "House" := of_decide_eq_true (ex 5 _ rfl)
  have nKH : He.ga K "Kind" ≠ He.ga K "House" := of_decide_eq_true (ex 6 _ rfl)
  have exH := He.exm_ok (x := "BadHouse") (y := "BadHouse") (b := true) (c.fact 66 (f := .exm "BadHouse" "BadHouse" true) rfl)
  have exU := He.exm_ok (x := "UnknownKind") (y := "UnknownKind") (b := true) (c.fact 67 (f := .exm "UnknownKind" "UnknownKind" true) rfl)
  have exV := He.exm_ok (x := "UnknownField") (y := "UnknownField") (b := true) (c.fact 68 (f := .exm "UnknownField" "UnknownField" true) rfl)
  have hS : SysDict K := Hb.sysB_ok (ex 7 _ rfl)
  have oH : OwnC K (He.ga K "House") := Hb.ownB_ok pH.cl (ex 8 _ rfl)
  have xT : PySem.W.kitOne K (.type "tuple") (.ref (He.ga K "House")) = some false := of_decide_eq_true (ex 9 _ rfl)
  have nfT : PySem.W.notFirst K (He.ga K "House") (.type "tuple") = true := (ex 10 _ rfl)
  have shBF : ShI (meth 2 0) "name" := ⟨⟨rfl, rfl, rfl, by decide +kernel, rfl, by decide +kernel, by decide +kernel⟩, by decide +kernel, by decide +kernel, by decide +kernel, by decide +kernel⟩
  have shBK : ShI (meth 3 0) "name" := ⟨⟨rfl, rfl, rfl, by decide +kernel, rfl, by decide +kernel, by decide +kernel⟩, by decide +kernel, by decide +kernel, by decide +kernel, by decide +kernel⟩
  have shBH : ShI (meth 4 0) "name" := ⟨⟨rfl, rfl, rfl, by decide +kernel, rfl, by decide +kernel, by decide +kernel⟩, by decide +kernel, by decide +kernel, by decide +kernel, by decide +kernel⟩
  have mBF : Mk1 P w K mg base "BadField" "name" (He.ga K "BadField") (He.ma K (He.ga K "BadField") "__init__") fd_BF := by
    refine ⟨Hb.oexB_ok (ex 11 _ rfl), Hb.excB_ok (ex 12 _ rfl), He.eqO_ok (c.fact 120 (f := .noat "BadField" "name") rfl), (g 49 "BadField" rfl), He.eqO_ok (He.ba (c.fact 126 (f := .meth "BadField" "__init__") rfl)).1, beq_iff_eq.mp (He.ba (He.ba (c.fact 126 (f := .meth "BadField" "__init__") rfl)).2).1, ok_init1 (He5.fun_of (st := meth 2 0) F_BF) rfl shBF.S shBF.hs shBF.hl shBF.hd shBF.hc (Hb.oexB_ok (ex 11 _ rfl)) (He.eqO_ok (c.fact 120 (f := .noat "BadField" "name") rfl)), b_BF⟩
  have mBK : Mk1 P w K mg base "BadKind" "name" (He.ga K "BadKind") (He.ma K (He.ga K "BadKind") "__init__") fd_BK := by
    refine ⟨Hb.oexB_ok (ex 13 _ rfl), Hb.excB_ok (ex 14 _ rfl), He.eqO_ok (c.fact 121 (f := .noat "BadKind" "name") rfl), (g 50 "BadKind" rfl), He.eqO_ok (He.ba (c.fact 127 (f := .meth "BadKind" "__init__") rfl)).1, beq_iff_eq.mp (He.ba (He.ba (c.fact 127 (f := .meth "BadKind" "__init__") rfl)).2).1, ok_init1 (He5.fun_of (st := meth 3 0) F_BK) rfl shBK.S shBK.hs shBK.hl shBK.hd shBK.hc (Hb.oexB_ok (ex 13 _ rfl)) (He.eqO_ok (c.fact 121 (f := .noat "BadKind" "name") rfl)), b_BK⟩
  have mBH : Mk1 P w K mg base "BadHouse" "name" (He.ga K "BadHouse") (He.ma K (He.ga K "BadHouse") "__init__") fd_BH := by
    refine ⟨Hb.oexB_ok (ex 15 _ rfl), Hb.excB_ok (ex 16 _ rfl), He.eqO_ok (c.fact 122 (f := .noat "BadHouse" "name") rfl), (g 51 "BadHouse" rfl), He.eqO_ok (He.ba (c.fact 128 (f := .meth "BadHouse" "__init__") rfl)).1, beq_iff_eq.mp (He.ba (He.ba (c.fact 128 (f := .meth "BadHouse" "__init__") rfl)).2).1, ok_init1 (He5.fun_of (st := meth 4 0) F_BH) rfl shBH.S shBH.hs shBH.hl shBH.hd shBH.hc (Hb.oexB_ok (ex 15 _ rfl)) (He.eqO_ok (c.fact 122 (f := .noat "BadHouse" "name") rfl)), b_BH⟩
  have shUK : ShI (meth 5 0) "name" := ⟨⟨rfl, rfl, rfl, by decide +kernel, rfl, by decide +kernel, by decide +kernel⟩, by decide +kernel, by decide +kernel, by decide +kernel, by decide +kernel⟩
  have mUK : Mk1 P w K mg base "UnknownKind" "name" (He.ga K "UnknownKind") (He.ma K (He.ga K "UnknownKind") "__init__") fd_UK := by
    refine ⟨Hb.oexB_ok (ex 17 _ rfl), Hb.excB_ok (ex 18 _ rfl), He.eqO_ok (c.fact 123 (f := .noat "UnknownKind" "name") rfl), (g 52 "UnknownKind" rfl), He.eqO_ok (He.ba (c.fact 129 (f := .meth "UnknownKind" "__init__") rfl)).1, beq_iff_eq.mp (He.ba (He.ba (c.fact 129 (f := .meth "UnknownKind" "__init__") rfl)).2).1, ok_init1 (He5.fun_of (st := meth 5 0) F_UK) rfl shUK.S shUK.hs shUK.hl shUK.hd shUK.hc (Hb.oexB_ok (ex 17 _ rfl)) (He.eqO_ok (c.fact 123 (f := .noat "UnknownKind" "name") rfl)), b_UK⟩
  have mUF : Mk2 P w K mg base "UnknownField" "kind" "name" (He.ga K "UnknownField") (He.ma K (He.ga K "UnknownField") "__init__") fd_UF := by
    refine ⟨Hb.oexB_ok (ex 19 _ rfl), Hb.excB_ok (ex 20 _ rfl), He.eqO_ok (c.fact 125 (f := .noat "UnknownField" "kind") rfl), He.eqO_ok (c.fact 124 (f := .noat "UnknownField" "name") rfl), (g 53 "UnknownField" rfl), He.eqO_ok (He.ba (c.fact 130 (f := .meth "UnknownField" "__init__") rfl)).1, beq_iff_eq.mp (He.ba (He.ba (c.fact 130 (f := .meth "UnknownField" "__init__") rfl)).2).1, ok_init2 (He5.fun_of (st := meth 6 0) F_UF) rfl ⟨rfl, rfl, rfl, by decide +kernel, rfl, by decide +kernel, by decide +kernel⟩ (by decide +kernel) (by decide +kernel) (by decide +kernel) (by decide +kernel) (by decide +kernel) (by decide +kernel) (by decide +kernel) (Hb.oexB_ok (ex 19 _ rfl)) (He.eqO_ok (c.fact 125 (f := .noat "UnknownField" "kind") rfl)) (He.eqO_ok (c.fact 124 (f := .noat "UnknownField" "name") rfl)), b_UF⟩
  have xUK : XfC K (He.ga K "UnknownKind") := ⟨mUK.X.hg, mUK.X.hk, mUK.X.hs, mUK.X.hd⟩
  have xUF : XfC K (He.ga K "UnknownField") := ⟨mUF.X.hg, mUF.X.hk, mUF.X.hs, mUF.X.hd⟩
  have xBH : XfC K (He.ga K "BadHouse") := ⟨mBH.X.hg, mBH.X.hk, mBH.X.hs, mBH.X.hd⟩
  have k_isInt : Known P w K mg base _ _ "is_integer" _ _ _ fd_isInt := ⟨ok_isInt (He5.fun_of (st := top 12) F_isInt) B, g 0 "is_integer" rfl, F_isInt.kp, b_isInt⟩
  have k_isWord : Known P w K mg base _ _ "is_word" _ _ _ fd_isWord := ⟨ok_isWord (He5.fun_of (st := top 13) F_isWord) B C, g 1 "is_word" rfl, F_isWord.kp, b_isWord⟩
  have k_isField : Known P w K mg base _ _ "is_field_name" _ _ _ fd_isField := ⟨ok_isField (He5.fun_of (st := top 14) F_isField) C k_isWord, g 2 "is_field_name" rfl, F_isField.kp, b_isField⟩
  have k_isKind : Known P w K mg base _ _ "is_kind_name" _ _ _ fd_isKind := ⟨ok_isKind (He5.fun_of (st := top 15) F_isKind) B C, g 3 "is_kind_name" rfl, F_isKind.kp, b_isKind⟩
  have k_isDef : Known P w K mg base _ _ "is_default" _ _ _ fd_isDef := ⟨ok_isDef (He5.fun_of (st := top 16) F_isDef) C k_isInt, g 4 "is_default" rfl, F_isDef.kp, b_isDef⟩
  have k_diff : Known P w K mg base _ _ "are_different" _ _ _ fd_diff := ⟨ok_diff (He5.fun_of (st := top 17) F_diff) B, g 5 "are_different" rfl, F_diff.kp, b_diff⟩
  have k_fits : Known P w K mg base _ _ "_fits_mode" _ _ _ fd_fits := ⟨ok_fits (He5.fun_of (st := top 22) F_fits) C mo k_isInt k_isDef k_isKind, g 6 "_fits_mode" rfl, F_fits.kp, b_fits⟩
  have k_was : Known P w K mg base _ _ "_is_was" _ _ _ fd_was := ⟨ok_was (He5.fun_of (st := top 23) F_was) B C k_isField k_diff, g 7 "_is_was" rfl, F_was.kp, b_was⟩
  have mF : MkF P w K mg base (He.ga K "Field") _ _ fd_FI := ⟨ok_FI F_FI B k_isField k_fits k_was mBF pF, He.mkr_ok (c.fact 117 (f := .mkr "Field") rfl), gF, FunD_kbN (ps := psF) F_FI 3 ["target", "default", "was"] fun _ _ _ _ _ _ us ws h1 h2 => match us, h1, ws, h2 with | [_, _, _], _, [_, _, _], _ => rfl⟩
  have mF3 : MkF3 K fd_FI := by
    obtain ⟨_, kb1⟩ := FunD.kbinds0 (ps := psF) F_FI 3 ["default", "was"] [("target", V.non)] (fun us mv ws => us ++ (mv ++ ws)) (by intro z; cases z) (fun q hq => by rw [List.mem_singleton.mp hq]; exact List.mem_cons_self ..) (fun a b c => a.append (b.append c)) fun D doc pm an cdv ct us mv ws h1 h2 h3 => match us, h1, mv, h2, ws, h3 with
      | [_, _, _], _, [_], _, [_, _], _ => ⟨_, _, _, _, _, _, rfl, rfl, rfl⟩
    obtain ⟨_, kb2⟩ := FunD.kbinds0 (ps := psF) F_FI 3 ["target", "was"] [("default", V.int 0)] (fun us mv ws => us ++ (ws.take 1 ++ (mv ++ ws.drop 1))) (by intro z; cases z) (fun q hq => by rw [List.mem_singleton.mp hq]; exact List.mem_cons_of_mem _ (List.mem_cons_self ..)) (fun a b c => a.append ((vals_take 1 c).append (b.append (vals_drop 1 c)))) fun D doc pm an cdv ct us mv ws h1 h2 h3 => match us, h1, mv, h2, ws, h3 with
      | [_, _, _], _, [_], _, [_, _], _ => ⟨_, _, _, _, _, _, rfl, rfl, rfl⟩
    exact ⟨⟨_, kb1⟩, ⟨_, kb2⟩⟩
  have k_AF : Known P w K mg base _ _ "_are_fields" _ _ _ fd_AF := ⟨ok_AF (He5.fun_of (st := top 25) F_AF) B oF pF gF gH crd cvl k_diff, g 8 "_are_fields" rfl, F_AF.kp, b_AF⟩
  have k_CB : Known P w K mg base _ _ "_can_be" _ _ _ fd_CB := ⟨ok_CB (He5.fun_of (st := top 26) F_CB) B, g 9 "_can_be" rfl, F_CB.kp, b_CB⟩
  have mK : MkKd P w K mg base (He.ga K "Field") (He.ga K "Kind") _ _ fd_KI := ⟨ok_KI F_KI B k_isKind k_isField k_AF k_CB mBK pK, He.mkr_ok (c.fact 118 (f := .mkr "Kind") rfl), gK, FunD_kbN (ps := psK) F_KI 3 ["base", "frozen", "heirs", "key", "registered"] fun _ _ _ _ _ _ us ws h1 h2 => match us, h1, ws, h2 with | [_, _, _], _, [_, _, _, _, _], _ => rfl⟩
  have mK2 : MkK2 K fd_KI := by
    obtain ⟨mv, kb⟩ := FunD.kbinds0 (ps := psK) F_KI 3 [] [("base", V.non), ("frozen", V.bl false), ("heirs", V.bl false), ("key", V.non), ("registered", V.bl false)] (fun us mv ws => us ++ (mv ++ ws)) (by intro z; cases z) (fun q hq => hq) (fun a b c => a.append (b.append c)) fun D doc pm an cdv ct us mv ws h1 h2 h3 => match us, h1, mv, h2, ws, h3 with
      | [_, _, _], _, [_, _, _, _, _], _, [], _ => ⟨_, _, _, _, _, _, rfl, rfl, _, _, _, _, _, _, rfl, rfl, _, _, _, _, _, _, rfl, rfl, _, _, _, _, _, _, rfl, rfl, _, _, _, _, _, _, rfl, rfl, rfl⟩
    refine ⟨⟨fun us ws => us ++ mv, ⟨fun s us ws X l1 l2 => ?_, fun {vs us zs ws} a b => ?_⟩⟩⟩
    · have q := kb.to s us ws X l1 l2
      obtain rfl : ws = [] := List.eq_nil_of_length_eq_zero l2
      simpa using q
    · have q := kb.rel a (.nil : Vals [] [])
      simpa using q
  have k_all : Known P w K mg base _ _ "_all_fields" _ _ _ fd_all := ⟨ok_all (CF := He.ga K "Field") (He5.fun_of (st := top 30) F_all) pK, g 10 "_all_fields" rfl, F_all.kp, b_all⟩
  have k_chk : Known P w K mg base _ _ "_check_kinds" _ _ _ fd_chk := ⟨ok_chkB (CF := He.ga K "Field") (He5.fun_of (st := top 28) F_chk) B oK gK gH crd cvk mBH, g 11 "_check_kinds" rfl, F_chk.kp, b_chk⟩
  have k_aln : Known P w K mg base _ _ "_holds_alone" _ _ _ fd_aln := ⟨ok_alnB (He5.fun_of (st := top 29) F_aln) B pK pF k_all k_diff gA gH crd cvl, g 12 "_holds_alone" rfl, F_aln.kp, b_aln⟩
  have k_far : Known P w K mg base _ _ "_far_from" _ _ _ fd_far := ⟨ok_far (He5.fun_of (st := top 31) F_far) B, g 13 "_far_from" rfl, F_far.kp, b_far⟩
  have m_lt : KMt P w K mg base (He.ga K "House") CX0 1 "_lets" _ (spLt K (He.ga K "Field") (He.ga K "Kind") (He.ga K "House")) _ fd_lt := ⟨ok_lt (He5.fun_of (st := meth 32 7) F_lt) pK pH gA, He.meth_ok (c.fact 131 (f := .meth "House" "_lets") rfl), b_lt⟩
  have m_ld : KMt P w K mg base (He.ga K "House") CX0 2 "_leads_from" _ (spLd K (He.ga K "Field") (He.ga K "Kind") (He.ga K "House")) _ fd_ld := ⟨ok_ld (He5.fun_of (st := meth 32 6) F_ld) B an pF pH m_lt, He.meth_ok (c.fact 132 (f := .meth "House" "_leads_from") rfl), b_ld⟩
  have m_fz : KMt P w K mg base (He.ga K "House") (L2N.CX P w) 3 "_check_frozen" _ (spFzB K (He.ga K "Field") (He.ga K "Kind") (He.ga K "House") (He.ga K "BadHouse")) _ fd_fz := ⟨ok_fzB (He5.fun_of (st := meth 32 8) F_fz) an pK pH mBH, He.meth_ok (c.fact 133 (f := .meth "House" "_check_frozen") rfl), b_fz⟩
  have mH : MkHB P w K mg base (He.ga K "Field") (He.ga K "Kind") (He.ga K "House") (He.ga K "BadHouse") _ fd_HI := ⟨ok_HIB (He5.fun_of (st := meth 32 2) F_HI) B pK pH nFH nKH k_chk k_aln k_all m_ld k_far m_fz mBH, He.mkr_ok (c.fact 119 (f := .mkr "House") rfl), gH, b_HI⟩
  have m_hl : KMt P w K mg base (He.ga K "House") CX0 1 "__len__" _ (spHl2 K (He.ga K "House")) _ fd_hl := ⟨ok_Hl2 (He5.fun_of (st := meth 32 4) F_hl) B pH, He.meth_ok (c.fact 69 (f := .meth "House" "__len__") rfl), b_hl⟩
  have m_has : KMt P w K mg base (He.ga K "House") CX0 1 "__contains__" _ (spHas K (He.ga K "Field") (He.ga K "Kind") (He.ga K "House")) _ fd_has := ⟨ok_has (He5.fun_of (st := meth 32 5) F_has) B pH, He.meth_ok (c.fact 70 (f := .meth "House" "__contains__") rfl), b_has⟩
  have m_ck : KMt P w K mg base (He.ga K "House") (L2N.CX P w) 3 "_check" _ (spCk K (He.ga K "Field") (He.ga K "Kind") (He.ga K "House") (He.ga K "UnknownKind")) _ fd_ck := ⟨ok_ck (He5.fun_of (st := meth 32 9) F_ck) m_has m_has.mt.at_ m_has.mt.fn mUK, He.meth_ok (c.fact 71 (f := .meth "House" "_check") rfl), b_ck⟩
  have m_fd : KMt P w K mg base (He.ga K "House") (L2N.CX P w) 4 "field_of" _ (spFd K (He.ga K "Field") (He.ga K "Kind") (He.ga K "House") (He.ga K "UnknownKind") (He.ga K "UnknownField")) _ fd_fd := ⟨ok_fd (He5.fun_of (st := meth 32 12) F_fd) pH pF m_ck mUF, He.meth_ok (c.fact 74 (f := .meth "House" "field_of") rfl), b_fd⟩
  have m_fd3 : KMt P w K mg base (He.ga K "House") (L2N.CX P w) 4 "field_of" _ (spFd3 K (He.ga K "Field") (He.ga K "Kind") (He.ga K "House") (He.ga K "UnknownKind") (He.ga K "UnknownField")) _ fd_fd := ⟨ok_fd3 (He5.fun_of (st := meth 32 12) F_fd) pH pF m_ck mUF, He.meth_ok (c.fact 74 (f := .meth "House" "field_of") rfl), b_fd⟩
  have eF : EqM P w K mg base (He.ga K "Field") 1 (spFE K (He.ga K "Field")) _ fd_FE := ⟨ok_FE (He5.fun_of (st := meth 24 1) F_FE) B oF pF gF, b_FE, Hb.eqB_ok (ex 21 _ rfl), (ex 22 _ rfl)⟩
  have eK : EqM P w K mg base (He.ga K "Kind") 3 (spKT2 K (He.ga K "Field") (He.ga K "Kind")) _ fd_KE := ⟨ok_KT2 (He5.fun_of (st := meth 27 1) F_KE) B oK pK gK eF, b_KE, Hb.eqB_ok (ex 23 _ rfl), (ex 24 _ rfl)⟩
  have eH : EqM P w K mg base (He.ga K "House") 5 (spHE2 K (He.ga K "Field") (He.ga K "Kind") (He.ga K "House")) _ fd_HE := ⟨ok_HE2 (He5.fun_of (st := meth 32 3) F_HE) B oH pH gH eK, b_HE, Hb.eqB_ok (ex 25 _ rfl), (ex 26 _ rfl)⟩
  have eHt : EqM P w K mg base (He.ga K "House") 5 (spHEt K (He.ga K "House")) _ fd_HE := ⟨ok_HEt (He5.fun_of (st := meth 32 3) F_HE) B pH gH xT eK, b_HE, Hb.eqB_ok (ex 25 _ rfl), (ex 26 _ rfl)⟩
  have m_kd : KMt P w K mg base (He.ga K "House") (L2N.CX P w) 4 "kind_named" _ (spM K (He.ga K "Field") (He.ga K "Kind") (He.ga K "House") (He.ga K "UnknownKind") (aKd K (He.ga K "Field") (He.ga K "Kind"))) _ fd_kd := ⟨ok_Kd2 (He5.fun_of (st := meth 32 10) F_kd) pH m_ck, He.meth_ok (c.fact 72 (f := .meth "House" "kind_named") rfl), b_kd⟩
  have m_fo : KMt P w K mg base (He.ga K "House") (L2N.CX P w) 4 "fields_of" _ (spM K (He.ga K "Field") (He.ga K "Kind") (He.ga K "House") (He.ga K "UnknownKind") (aFo K (He.ga K "Field"))) _ fd_fo := ⟨ok_Fo2 (He5.fun_of (st := meth 32 11) F_fo) B pH m_ck, He.meth_ok (c.fact 73 (f := .meth "House" "fields_of") rfl), b_fo⟩
  have m_lh : KMt P w K mg base (He.ga K "House") (L2N.CX P w) 5 "lets_heirs" _ (spM K (He.ga K "Field") (He.ga K "Kind") (He.ga K "House") (He.ga K "UnknownKind") (aV fun x => .bl x.h)) _ fd_lh := ⟨ok_Lh (He5.fun_of (st := meth 32 15) F_lh) pH pK m_kd, He.meth_ok (c.fact 77 (f := .meth "House" "lets_heirs") rfl), b_lh⟩
  have m_iz : KMt P w K mg base (He.ga K "House") (L2N.CX P w) 5 "is_frozen" _ (spM K (He.ga K "Field") (He.ga K "Kind") (He.ga K "House") (He.ga K "UnknownKind") (aV fun x => .bl x.f)) _ fd_iz := ⟨ok_Iz (He5.fun_of (st := meth 32 16) F_iz) pH pK m_kd, He.meth_ok (c.fact 78 (f := .meth "House" "is_frozen") rfl), b_iz⟩
  have m_ir : KMt P w K mg base (He.ga K "House") (L2N.CX P w) 5 "is_registered" _ (spM K (He.ga K "Field") (He.ga K "Kind") (He.ga K "House") (He.ga K "UnknownKind") (aV fun x => .bl x.r)) _ fd_ir := ⟨ok_Ir (He5.fun_of (st := meth 32 17) F_ir) pH pK m_kd, He.meth_ok (c.fact 79 (f := .meth "House" "is_registered") rfl), b_ir⟩
  have m_ko : KMt P w K mg base (He.ga K "House") (L2N.CX P w) 5 "key_of" _ (spM K (He.ga K "Field") (He.ga K "Kind") (He.ga K "House") (He.ga K "UnknownKind") (aV fun x => tv x.k)) _ fd_ko := ⟨ok_Ko (He5.fun_of (st := meth 32 20) F_ko) pH pK m_kd, He.meth_ok (c.fact 82 (f := .meth "House" "key_of") rfl), b_ko⟩
  have m_mo : KMt P w K mg base (He.ga K "House") (L2N.CX P w) 5 "marks_of" _ (spM K (He.ga K "Field") (He.ga K "Kind") (He.ga K "House") (He.ga K "UnknownKind") (aWs marksK)) _ fd_mo := ⟨ok_Mo (He5.fun_of (st := meth 32 13) F_mo) B pH pF m_fo, He.meth_ok (c.fact 75 (f := .meth "House" "marks_of") rfl), b_mo⟩
  have m_so : KMt P w K mg base (He.ga K "House") (L2N.CX P w) 5 "slots_of" _ (spM K (He.ga K "Field") (He.ga K "Kind") (He.ga K "House") (He.ga K "UnknownKind") (aWs slotsK)) _ fd_so := ⟨ok_So (He5.fun_of (st := meth 32 14) F_so) B pH pF m_fo, He.meth_ok (c.fact 76 (f := .meth "House" "slots_of") rfl), b_so⟩
  have m_il : KMt P w K mg base (He.ga K "House") (L2N.CX P w) 6 "is_leaf" _ (spM K (He.ga K "Field") (He.ga K "Kind") (He.ga K "House") (He.ga K "UnknownKind") (aB fun ks x => (slotsK ks x).isEmpty)) _ fd_il := ⟨ok_Il (He5.fun_of (st := meth 32 18) F_il) pH m_so, He.meth_ok (c.fact 80 (f := .meth "House" "is_leaf") rfl), b_il⟩
  have m_im : KMt P w K mg base (He.ga K "House") (L2N.CX P w) 6 "is_movable" _ (spM K (He.ga K "Field") (He.ga K "Kind") (He.ga K "House") (He.ga K "UnknownKind") (aB movK)) _ fd_im := ⟨ok_Im (He5.fun_of (st := meth 32 19) F_im) an pH pF m_iz m_ko, He.meth_ok (c.fact 81 (f := .meth "House" "is_movable") rfl), b_im⟩
  have m_ho : KMt P w K mg base (He.ga K "House") (L2N.CX P w) 4 "heirs_of" _ (spM K (He.ga K "Field") (He.ga K "Kind") (He.ga K "House") (He.ga K "UnknownKind") (aWs heirsK)) _ fd_ho := ⟨ok_Ho2 (He5.fun_of (st := meth 32 21) F_ho) pH pK m_ck, He.meth_ok (c.fact 83 (f := .meth "House" "heirs_of") rfl), b_ho⟩
  have m_le : KMt P w K mg base (He.ga K "House") (L2N.CX P w) 4 "leads" _ (spM K (He.ga K "Field") (He.ga K "Kind") (He.ga K "House") (He.ga K "UnknownKind") (aWs fun ks x => leadOf ks x.n)) _ fd_le := ⟨ok_Ls (He5.fun_of (st := meth 32 24) F_le) B pH m_ck, He.meth_ok (c.fact 86 (f := .meth "House" "leads") rfl), b_le⟩
  have m_lf : KMt P w K mg base (He.ga K "House") (L2N.CX P w) 4 "leads_far" _ (spM K (He.ga K "Field") (He.ga K "Kind") (He.ga K "House") (He.ga K "UnknownKind") (aWs fun ks x => farK ks x.n)) _ fd_lf := ⟨ok_Lf (He5.fun_of (st := meth 32 25) F_lf) B pH m_ck, He.meth_ok (c.fact 87 (f := .meth "House" "leads_far") rfl), b_lf⟩
  have m_am : KMt P w K mg base (He.ga K "House") (L2N.CX P w) 3 "admitted" _ (spAm2 K (He.ga K "Field") (He.ga K "Kind") (He.ga K "House") (He.ga K "UnknownKind")) _ fd_am := ⟨ok_Am2 (He5.fun_of (st := meth 32 22) F_am) B pH gA m_lt m_has m_has.mt.at_ m_has.mt.fn mUK, He.meth_ok (c.fact 84 (f := .meth "House" "admitted") rfl), b_am⟩
  have m_as : KMt P w K mg base (He.ga K "House") (L2N.CX P w) 4 "admits" _ (spAs K (He.ga K "Field") (He.ga K "Kind") (He.ga K "House") (He.ga K "UnknownKind")) _ fd_as := ⟨ok_As (He5.fun_of (st := meth 32 23) F_as) pH m_am m_ck, He.meth_ok (c.fact 85 (f := .meth "House" "admits") rfl), b_as⟩
  have mWk : MkWk P w K mg base (He.ga K "Field") (He.ga K "Kind") (He.ga K "House") (He.ga K "BadHouse") (He.ma K (He.ga K "House") "with_kinds") fd_wk := by
    refine ⟨ok_Wk F_wk pH mH, He.meth_ok (c.fact 88 (f := .meth "House" "with_kinds") rfl), FunD_kbN (ps := psWk) F_wk 2 ["root"] fun _ _ _ _ _ _ us ws h1 h2 => match us, h1, ws, h2 with | [_, _], _, [_], _ => rfl, ?_⟩
    obtain ⟨mv, kb⟩ := FunD.kbinds0 (ps := psWk) F_wk 2 [] [("root", V.non)] (fun us mv ws => us ++ (mv ++ ws)) (by intro z; cases z) (fun q hq => hq) (fun a b c => a.append (b.append c)) fun D doc pm an cdv ct us mv ws h1 h2 h3 => match us, h1, mv, h2, ws, h3 with
      | [_, _], _, [_], _, [], _ => ⟨_, _, _, _, _, _, rfl, rfl, rfl⟩
    refine ⟨fun us ws => us ++ mv, ⟨fun s us ws X l1 l2 => ?_, fun {vs us zs ws} a b => ?_⟩⟩
    · have q := kb.to s us ws X l1 l2
      obtain rfl : ws = [] := List.eq_nil_of_length_eq_zero l2
      simpa using q
    · have q := kb.rel a (.nil : Vals [] [])
      simpa using q
  have k_pen : Known P w K mg base _ _ "_law_pen" _ _ _ fd_pen := ⟨ok_pen (He5.fun_of (st := top 34) F_pen) blt, g 14 "_law_pen" rfl, F_pen.kp, b_pen⟩
  have k_take : Known P w K mg base _ _ "_law_take" _ _ _ fd_take := ⟨ok_take (He5.fun_of (st := top 35) F_take) blt, g 15 "_law_take" rfl, F_take.kp, b_take⟩
  have k_one : Known P w K mg base _ _ "_law_one_of" _ _ _ fd_one := ⟨ok_one (He5.fun_of (st := top 36) F_one) blt k_take.ok k_take.bi k_take.mg k_take.kp, g 16 "_law_one_of" rfl, F_one.kp, b_one⟩
  have k_word : Known P w K mg base _ _ "_law_word" _ _ _ fd_word := ⟨ok_lWd (He5.fun_of (st := top 38) F_word) B k_take, g 17 "_law_word" rfl, F_word.kp, b_word⟩
  have k_words : Known P w K mg base _ _ "_law_words" _ _ _ fd_words := ⟨ok_lWds (He5.fun_of (st := top 39) F_words) B k_take k_one k_word, g 18 "_law_words" rfl, F_words.kp, b_words⟩
  have k_kns : Known P w K mg base _ _ "_law_kind_names" _ _ _ fd_kns := ⟨ok_lKns (He5.fun_of (st := top 40) F_kns) B k_words, g 19 "_law_kind_names" rfl, F_kns.kp, b_kns⟩
  have k_Rw : Known P w K mg base _ _ "_law_row" _ _ _ fd_Rw := ⟨ok_Rw (He5.fun_of (st := top 41) F_Rw), g 20 "_law_row" rfl, F_Rw.kp, b_Rw⟩
  have k_Af : Known P w K mg base _ _ "_law_all_fields" _ _ _ fd_Af := ⟨ok_Af (He5.fun_of (st := top 42) F_Af) B k_Rw GAF F_Af.kp b_Af, g 21 "_law_all_fields" rfl, F_Af.kp, b_Af⟩
  have k_Ad : Known P w K mg base _ _ "_law_admitted" _ _ _ fd_Ad := ⟨ok_Ad (He5.fun_of (st := top 43) F_Ad), g 22 "_law_admitted" rfl, F_Ad.kp, b_Ad⟩
  have k_Le : Known P w K mg base _ _ "_law_leads" _ _ _ fd_Le := ⟨ok_Le (He5.fun_of (st := top 44) F_Le) B k_Af k_Ad, g 23 "_law_leads" rfl, F_Le.kp, b_Le⟩
  have k_Fr : Known P w K mg base _ _ "_law_leads_far" _ _ _ fd_Fr := ⟨ok_Fr (He5.fun_of (st := top 45) F_Fr) B k_Le, g 24 "_law_leads_far" rfl, F_Fr.kp, b_Fr⟩
  have k_Ws : Known P w K mg base _ _ "_law_was" _ _ _ fd_Ws := ⟨ok_Ws (He5.fun_of (st := top 46) F_Ws) B k_take k_one, g 25 "_law_was" rfl, F_Ws.kp, b_Ws⟩
  have k_Fl : Known P w K mg base _ _ "_law_field" _ _ _ fd_Fl := ⟨ok_Fl (He5.fun_of (st := top 47) F_Fl) B k_take k_one k_Ws, g 26 "_law_field" rfl, F_Fl.kp, b_Fl⟩
  have k_Fv : Known P w K mg base _ _ "_law_flavour" _ _ _ fd_Fv := ⟨ok_Fv (He5.fun_of (st := top 48) F_Fv) B k_one, g 27 "_law_flavour" rfl, F_Fv.kp, b_Fv⟩
  have k_Nr : Known P w K mg base _ _ "_law_new_row" _ _ _ fd_Nr := ⟨ok_Nr (He5.fun_of (st := top 49) F_Nr) B k_take k_one k_Fv k_Af k_Fl, g 28 "_law_new_row" rfl, F_Nr.kp, b_Nr⟩
  have k_Hr : Known P w K mg base _ _ "_law_house_rows" _ _ _ fd_Hr := ⟨ok_Hr (He5.fun_of (st := top 50) F_Hr) B k_take k_kns k_words k_Nr k_Fr, g 29 "_law_house_rows" rfl, F_Hr.kp, b_Hr⟩
  have k_Rt : Known P w K mg base _ _ "_law_root" _ _ _ fd_Rt := ⟨ok_Rt (He5.fun_of (st := top 51) F_Rt) k_one, g 30 "_law_root" rfl, F_Rt.kp, b_Rt⟩
  have k_Mf : Known P w K mg base _ _ "_law_made_field" _ _ _ fd_Mf := ⟨ok_Mf (He5.fun_of (st := top 52) F_Mf) mF mF3, g 31 "_law_made_field" rfl, F_Mf.kp, b_Mf⟩
  have k_Mk : Known P w K mg base _ _ "_law_made_kind" _ _ _ fd_Mk := ⟨ok_Mk (He5.fun_of (st := top 53) F_Mk) k_Mf mK, g 32 "_law_made_kind" rfl, F_Mk.kp, b_Mk⟩
  have k_Mh : Known P w K mg base _ _ "_law_made_house" _ _ _ fd_Mh := ⟨ok_Mh (He5.fun_of (st := top 54) F_Mh) k_Mk mH, g 33 "_law_made_house" rfl, F_Mh.kp, b_Mh⟩
  have k_Tr : Known P w K mg base _ _ "_law_truth" _ _ _ fd_Tr := ⟨ok_Tr (He5.fun_of (st := top 56) F_Tr) B, g 34 "_law_truth" rfl, F_Tr.kp, b_Tr⟩
  have k_Ii : Known P w K mg base _ _ "_law_is_integer" _ _ _ fd_Ii := ⟨ok_Ii (He5.fun_of (st := top 37) F_Ii) B, g 35 "_law_is_integer" rfl, F_Ii.kp, b_Ii⟩
  have k_Fsh : Known P w K mg base _ _ "_law_field_shows" _ _ _ fd_Fsh := ⟨ok_Fs (He5.fun_of (st := top 57) F_Fsh) B oF pF gF k_Ii, g 36 "_law_field_shows" rfl, F_Fsh.kp, b_Fsh⟩
  have k_La : Known P w K mg base _ _ "_law_admits" _ _ _ fd_La := ⟨ok_La (He5.fun_of (st := top 60) F_La) B pH m_as k_Rw k_Tr, g 37 "_law_admits" rfl, F_La.kp, b_La⟩
  have k_Ll : Known P w K mg base _ _ "_law_lists" _ _ _ fd_Ll := ⟨ok_Ll (He5.fun_of (st := top 58) F_Ll) B pH k_Af k_Fsh k_Le k_Fr k_Ad m_fo m_mo m_so m_le m_lf m_ho m_am m_fd eF, g 38 "_law_lists" rfl, F_Ll.kp, b_Ll⟩
  have k_Lg : Known P w K mg base _ _ "_law_flags" _ _ _ fd_Lg := ⟨ok_Lg (He5.fun_of (st := top 59) F_Lg) B pH pK pF k_Af k_Rw k_Tr m_kd m_lh m_iz m_ir m_il m_im m_ko, g 39 "_law_flags" rfl, F_Lg.kp, b_Lg⟩
  have k_Lc : Known P w K mg base _ _ "_law_call" _ _ _ fd_Lc := ⟨ok_Lc (He5.fun_of (st := top 61) F_Lc) pH m_kd m_fo m_fd3 m_mo m_so m_lh m_iz m_ir m_il m_im m_ko m_ho m_le m_lf m_as, g 40 "_law_call" rfl, F_Lc.kp, b_Lc⟩
  have k_Ok : Known P w K mg base _ _ "_law_odd_kind" _ _ _ fd_Ok := ⟨ok_Ok (He5.fun_of (st := top 55) F_Ok) k_one, g 41 "_law_odd_kind" rfl, F_Ok.kp, b_Ok⟩
  have k_Rf : KnownG P w K mg base _ _ "_law_refused" _ _ _ fd_Rf := ⟨ok_Rf (He5.fun_of (st := top 62) F_Rf) B hS pH k_Lc m_am m_as mUK xUK exU, g 42 "_law_refused" rfl, F_Rf.kp, b_Rf⟩
  have k_Of : KnownG P w K mg base _ _ "_law_odd_field" _ _ _ fd_Of := ⟨ok_Of (He5.fun_of (st := top 63) F_Of) B hS pH k_Af m_fd3 mUF xUF exV, g 43 "_law_odd_field" rfl, F_Of.kp, b_Of⟩
  have k_Oh : Known P w K mg base _ _ "_law_other_houses" _ _ _ fd_Oh := ⟨ok_Oh (He5.fun_of (st := top 64) F_Oh) B pH k_Rt k_Mk k_take mWk mK mK2 eH eHt m_hl m_hl.mt.at_ m_hl.mt.fn mBH xBH exH nfT, g 44 "_law_other_houses" rfl, F_Oh.kp, b_Oh⟩
  exact ok_law (He5.fun_of (st := top 65) F_law) B pH k_pen k_Hr k_Rt k_Mh k_Ll k_Lg k_La k_Ok k_one k_Rf k_Of k_Oh m_am m_hl m_hl.mt.at_ m_hl.mt.fn m_has m_has.mt.at_ m_has.mt.fn gH crd cvk cvl
end Wh
open PySem PySem.W PySem.Calls PyProof.Rows
theorem PySem.Challenge.cw_waypairs_k02_houses_asked_holds : PySem.Challenge.rw_waypairs_k02_houses_asked.Holds := by
  w_on; o_law
  refine HandSHeadRun.head_any (r := OpenLaw.row PySem.Challenge.rw_waypairs_k02_houses_asked) (q := view (OpenLaw.row PySem.Challenge.rw_waypairs_k02_houses_asked).prog [65]) (H := Wh.hk) (ob := Wh.ob) (M := 8000) (loose := Wr.loose) (d := HandSHeadRun.topDef (OpenLaw.row PySem.Challenge.rw_waypairs_k02_houses_asked).prog 65) (kwd := []) Wh.ob_eq
    (by kernel_rfl) (fun s => by kernel_rfl) Wr.run (by kernel_rfl) (by kernel_rfl) (by kernel_rfl) (by rfl) (by first | assumption | decide +kernel) (by decide +kernel) ⟨rfl, rfl, rfl, rfl, rfl, by decide +kernel⟩ ?hw ?hc
  case hw => w_witness2
  case hc =>
    refine Wh.walk_GE (l := PySem.Challenge.rw_waypairs_k02_houses_asked) (n := 63) (k := 9) (x := "_law_script") (CX := L2.CX0) rfl (by decide) (by kernel_rfl) ⟨rfl, by decide, by decide⟩ ?F (fun _ _ _ _ z => z)
    intro w mg fa h Y G hmg0
    obtain ⟨K, KX, c⟩ := Y
    have hmg : mg ("law" : PySem.Str) = some (.ref fa) := by
      have e : (HandSHeadRun.topDef (OpenLaw.row PySem.Challenge.rw_waypairs_k02_houses_asked).prog 65).name = ("law" : PySem.Str) := by kernel_rfl
      rw [← e]
      exact hmg0
    obtain ⟨fd, hb, hF⟩ := Wh.facts (P := (PySem.Challenge.rw_waypairs_k02_houses_asked).prog) (w := w) KX G hmg c
    exact ⟨K, fd, Wh.spLaw K, KX, hb, fun H a ns hl _ hS => ⟨a, ns, rfl, hS, hl, fun _ => rfl⟩, hF⟩
