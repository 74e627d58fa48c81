import PyProof.Rows.All
import Wide.All
import OpenK.AllK
import Wide.FinOn
import HandS.Iter
import KE.GoesZip
import KE.GoesEnum
import KE.GoesMore
import HandS.ForMost
import HandS.Wide
import HandS.IsInst
import HandS.Flow
import HandS.Walk
import HandS.Defaults
import HandS.MakeKwOnly
import HandS.Comp
import HandS.Style
import HandS.Zip
import HandS.More
import HandS.Words
import HandS.WordsExc
import HandS.Head0
import HandS.Head1
import HandS.Head2
import HandS.HeadEnd
import HandS.HeadHook1
import HandS.HeadHook2
import HandS.HeadNt
import PySem.Challenge.RW_waypairs_k48_memos_of_two_ways
set_option Elab.async false
set_option linter.all false
set_option maxRecDepth 100000
set_option maxHeartbeats 4000000
namespace Wq
open PySem PySem.Spec PyProof.Rows L2
/-! ## enumerate(tuple) -/
/-- the tuple at a as it stands at each turn, each item in a new pair -/
def IteT (K : PySem.W.Frag) (a : Addr) : It :=
  ⟨fun i H => ∃ (xs : List V) (x : V), SqT K H a xs ∧ xs[i]? = some x, fun i H v H' => ∃ T x, v = .ref T ∧ H T = none ∧ H' = upd H T (.tup [.int (i : Nat), x]) ∧ ∀ xs, SqT K H a xs → xs[i]? = some x, fun i H => ∃ xs : List V, SqT K H a xs ∧ xs.length = i⟩
theorem turn_enumT {P : Program} {w : World} {K : PySem.W.Frag} {elts : List Expr} {kk : Nat} {tpos : Pos} (a e it : Addr) (hae : a ≠ e) (hai : a ≠ it) :
    Turn P w K (.Tuple elts kk tpos) (IteT K a) [e, it] e (fun i h => (∃ old, IsEnum h e it ((i : Nat) : Int) old) ∧ h.IsTupleIter it a i ∧ e ≠ it) where
  mem := by simp
  obj := fun i h st b hb => by
    obtain ⟨⟨old, he⟩, ⟨o, ho, hc, hd⟩, _⟩ := st
    have e' : b = e ∨ b = it := by simpa using hb
    rcases e' with z | z
    · rw [z]; exact ⟨_, he, fun v q => nomatch q⟩
    · rw [z]; exact ⟨o, ho, fun v q => by rw [hd] at q; cases q⟩
  keep := fun i h h' st k => let ⟨⟨old, he⟩, hi, hne⟩ := st; ⟨⟨old, k e (by simp) _ he⟩, hi.at fun o q => k it (by simp) o q, hne⟩
  item := by
    intro X hP hw hK hc i pins s σ H E I hf st hg
    subst hP hw hK
    obtain ⟨⟨old, he⟩, hit, hne⟩ := st
    obtain ⟨xs, x, hq, hx⟩ := hg
    obtain ⟨its, rv, p, hz⟩ := I.tuple hq
    obtain ⟨u, hu, ru⟩ := rv.get hx
    have hel : e < s.heap.objs.size := Heap.lt_size he
    have hil : it < s.heap.objs.size := by obtain ⟨_, q, _⟩ := hit; exact Heap.lt_size q
    have hlt : i < its.toArray.size := by
      have : its.toArray[i]? = some u := by simpa using hu
      exact (Array.getElem?_eq_some_iff.mp this).1
    refine wpAny_pyNext_enum_itemC (c := (i : Int)) (Draws.tuple (prog := X.prog) (w := X.w) (A := X.A.in1) (show X.A.in1.handled = none from I.ok.hd hc) it a hai its.toArray) he ⟨hit, p⟩ hlt hne (by simp [hne, Ne.symm hae]) fun x1 h' tk hx1 ho hit' hT hsz hk => ?_
    have ex : x1 = u := by
      have q : its.toArray[i]? = some x1 := hx1
      have q2 : its.toArray[i]? = some u := by simpa using hu
      exact Option.some.inj (q.symm.trans q2)
    subst ex
    refine ⟨_, rfl, wpAny_letOwnedTupleGo_enum (s := { s with heap := h', toks := tk + 1 }) ho fun h'' he' sb => ?_⟩
    have hT2 : h''.get? s.heap.objs.size = some { cls := .type "tuple", data := .seq #[.int i tk, x1] } := (sb.2 _ (Nat.ne_of_gt hel)).trans hT
    have new : ObjOk X.prog X.w (upd H s.heap.objs.size (.tup [.int (i : Nat), x])) h'' s.heap.objs.size (.tup [.int (i : Nat), x]) :=
      ⟨by show 2 ≤ sizeLine; decide, [.int i tk, x1], .cons ⟨_, rfl⟩ (.cons ru .nil), ⟨_, hT2, rfl, _, rfl⟩⟩
    have I1 : Inv X pins σ (upd H s.heap.objs.size (.tup [.int (i : Nat), x])) { s with heap := h'', toks := tk + 1 } :=
      I.turnedNew (ch := [e, it]) (fun b ob hb q => (sb.2 b (fun z => hb (by simp [z]))).trans (hk b ob (fun z => hb (by simp [z])) (fun z => hb (by simp [z])) q)) hf (Nat.le_refl _) new
    refine ⟨.ref s.heap.objs.size, _, I1, rfl, ⟨_, x, rfl, I.hok.fresh (Nat.le_refl _), rfl, fun ys hy => by rw [I.tuple_inj hy hq]; exact hx⟩, ⟨⟨x1, ?_⟩, hit'.1.at fun o q => (sb.2 it (Ne.symm hne)).trans q, hne⟩, fun b hb => ?_⟩
    · have e1 : ((i + 1 : Nat) : Int) = (i : Int) + 1 := by omega
      rw [e1]; exact he'
    · have hb' : b < s.heap.objs.size := by
        have e' : b = e ∨ b = it := by simpa using hb
        rcases e' with z | z
        · rw [z]; exact hel
        · rw [z]; exact hil
      rw [upd_ne (Nat.ne_of_lt hb')]
      exact (hf b hb).1
  done := by
    intro X hP hw hK hc i pins s σ H E I hf st hg
    subst hP hw hK
    obtain ⟨⟨old, he⟩, hit, hne⟩ := st
    obtain ⟨xs, hq, hx⟩ := hg
    obtain ⟨its, rv, p, hz⟩ := I.tuple hq
    obtain ⟨f0, f1, f2, f3, f4, f5⟩ := hf it (by simp)
    have hl := rv.length
    have hi : i = its.toArray.size := by
      rw [List.size_toArray]
      omega
    subst hi
    exact wpAny_pyNext_enum_endD (Draws.tuple (prog := X.prog) (w := X.w) (A := X.A.in1) (show X.A.in1.handled = none from I.ok.hd hc) it a hai its.toArray) he ⟨hit, p⟩ fun h' eb => ⟨rfl, I.turned (t' := s.toks) (fun b o hb q => eb b o hb q) f0 f1 f3 f4 f5⟩
  self := fun A i s Q E st h => let ⟨⟨_, he⟩, _⟩ := st; wpAny_pyIter_enum he h
set_option maxHeartbeats 1000000 in
theorem meets_enumerate_newB1 {v : Value} {o : Obj} {H : Heap → Prop} (B : Begins v o H) :
    Meets (Builtin.«enumerate.__new__» ⟨[.type "enumerate", v], []⟩) (fun _ R s => H s.heap ∧
      R (.ok (.ret (.ref (s.heap.push o).objs.size))) { s with heap := (s.heap.push o).push { cls := .type "enumerate", data := .fields #[.none, .bool false, .ref s.heap.objs.size, rawInt 0, .none, .none] } }) :=
  .of_wp fun prog w A R s h => by
    obtain ⟨hp, g, d, tk, os⟩ := s; obtain ⟨h1, h⟩ := h
    have hsub := sub_enumerate
    have q1 : ∀ {A' : Around} {E : Value → Shared → Prop} {Q : Value → Shared → Prop}, Q (.ref hp.objs.size) ⟨hp.push o, g, d, tk, os⟩ → wpAny (model prog w) A' (pyIter v) Q E ⟨hp, g, d, tk, os⟩ :=
      fun q => B.iter prog w _ _ ⟨hp, g, d, tk, os⟩ _ h1 q
    wp_walk using q1
    refine wpAny_stack_any fun st => wpAny_pure ?_
    split
    · rename_i c _ _ _ _ _
      cases (c == Value.type "enumerate")
      · wp_walk using q1
        exact ⟨_, rfl, h⟩
      · wp_walk using q1
        exact ⟨_, rfl, h⟩
    · wp_walk using q1
      exact ⟨_, rfl, h⟩
section
variable {prog : Program} {w : World} {A : Around} {E : Value → Shared → Prop} {s : Shared}
theorem enum_begins1 {v : Value} {o : Obj} {H : Heap → Prop} {Q : Value → Shared → Prop} (B : Begins v o H) (h1 : H s.heap)
    (h : ∀ h', IsEnum h' (s.heap.objs.size + 1) s.heap.objs.size 0 .none → h'.get? s.heap.objs.size = some o → h'.objs.size = s.heap.objs.size + 2 →
      (∀ b o, s.heap.get? b = some o → h'.get? b = some o) → Q (.ref (s.heap.objs.size + 1)) { s with heap := h' }) :
    wpAny (model prog w) A (call (.type "enumerate") [v]) Q E s := by
  refine callType_new F.called_enumerate (by decide) (F.typeCall_enumerate_1 _) (F.newCall_enumerate_1 _) (fun obj => F.args_object_init_2 obj _) F.entry_enumerate_new
    (meets_enumerate_newB1 B) ⟨h1, ?_⟩
  have hz : (s.heap.push o).objs.size = s.heap.objs.size + 1 := Heap.size_push ..
  show _ ∧ _
  rw [hz]
  have he : IsEnum ((s.heap.push o).push { cls := .type "enumerate", data := .fields #[.none, .bool false, .ref s.heap.objs.size, rawInt 0, .none, .none] }) (s.heap.objs.size + 1) s.heap.objs.size 0 .none := by
    have := Heap.get?_push_size (s.heap.push o) (o := { cls := .type "enumerate", data := .fields #[.none, .bool false, .ref s.heap.objs.size, rawInt 0, .none, .none] }) rfl
    rw [hz] at this; exact this
  refine ⟨⟨_, he, rfl⟩, h _ he (Heap.get?_push_of_some _ (Heap.get?_push_size _ B.free)) (by rw [Heap.size_push, hz]) fun b o x => Heap.get?_push_of_some _ (Heap.get?_push_of_some _ x)⟩
end
def iEnumT (K : PySem.W.Frag) (ta : TA) : TI := fun σ H R => ta σ H fun vs H1 => ∃ a xs, vs = [.ref a] ∧ SqT K H1 a xs ∧ R (IteT K a) H1
theorem pi_enumT {X : Cx} {e : Expr} {ta : TA} {p pos tpos : Pos} {elts : List Expr} {kk : Nat} (hg : Gl X "enumerate") (hm : X.mg "enumerate" = none) (ha : PA X [e] ta) (hs : starEach [e] X.env = [(false, eval e X.env)] := by rfl) :
    PI X (.Tuple elts kk tpos) (.Call (.Name "enumerate" p) [e] [] pos) (iEnumT X.K ta) := by
  refine ⟨fun pins s σ H R I h => ?_⟩
  refine Call_ (ld_blt I hg hm boot_enumerate (PyProof.Rows.callWith_type1 (thn (ha.run pos pins s σ H _ I h) fun us s1 ⟨vs, H1, I1, r1, q1⟩ => ?_) hs rfl))
  obtain ⟨a, xs, ex, hq, q⟩ := q1
  subst ex
  cases r1 with
  | cons r rr =>
    cases rr
    cases r
    obtain ⟨its, rv, p', hz⟩ := I1.tuple hq
    obtain ⟨o1, ho1, _⟩ := id p'
    have la : a < s1.heap.objs.size := Heap.lt_size ho1
    refine enum_begins1 (begins_tuple a its.toArray) p' fun h' he hit hsz hk => wpAny_pyIter_enum he ?_
    have I2 : Inv X pins σ H1 { s1 with heap := h' } := I1.kept (t' := s1.toks) hk
    refine ⟨s1.heap.objs.size + 1, [s1.heap.objs.size + 1, s1.heap.objs.size], _, _, H1, rfl, I2, turn_enumT a (s1.heap.objs.size + 1) s1.heap.objs.size (Nat.ne_of_lt (Nat.lt_succ_of_lt la)) (Nat.ne_of_lt la), ⟨⟨.none, he⟩, ⟨_, hit, rfl, rfl⟩, Nat.succ_ne_self _⟩, fun b hb => ?_, q⟩
    have e' : b = s1.heap.objs.size + 1 ∨ b = s1.heap.objs.size := by simpa using hb
    have hle : s1.heap.objs.size ≤ b := by
      rcases e' with z | z
      · rw [z]; exact Nat.le_add_right _ _
      · rw [z]; exact Nat.le_refl _
    exact I1.fpOk hle (I1.hok.fresh hle)
/-- a loop over enumerate of a tuple -/
theorem for_enumT {K : PySem.W.Frag} {a : Addr} {xs : List V} {g : TG} {tb : TS} {D : Ends} {σ : L2.St} {H : Hp} (Pv : Nat → L2.St → Hp → Prop) (h0 : Pv 0 σ H) (hq : ∀ i σ H, Pv i σ H → SqT K H a xs)
    (hs : ∀ (i : Nat) (x : V) (T : Addr) (σ : L2.St) (H : Hp), xs[i]? = some x → Pv i σ H → H T = none → g (.ref T) σ (upd H T (.tup [.int (i : Nat), x])) fun σ2 H2 => tb { D with nx := Pv (i + 1), ct := Pv (i + 1), bk := D.nx } σ2 H2) (hd : ∀ σ H, Pv xs.length σ H → D.nx σ H) :
    ∃ W : Nat → Nat → L2.St → Hp → Prop, (∃ m, W 0 m σ H) ∧ ∀ i m σ H, W i m σ H →
      ((IteT K a).stop i H ∧ D.nx σ H) ∨ ((IteT K a).go i H ∧ ∃ N : L2.St → Hp → Prop, (∀ σ' H', N σ' H' → ∃ m', m' < m ∧ W (i + 1) m' σ' H') ∧ ∀ v H', (IteT K a).yld i H v H' → g v σ H' fun σ2 H2 => tb { D with nx := N, ct := N, bk := D.nx } σ2 H2) := by
  refine ⟨fun i m σ H => m = xs.length - i ∧ i ≤ xs.length ∧ Pv i σ H, ⟨xs.length, rfl, Nat.zero_le _, h0⟩, ?_⟩
  rintro i m σ H ⟨rfl, hi, p⟩
  have qx := hq i σ H p
  by_cases hlt : i < xs.length
  · have hx : xs[i]? = some xs[i] := List.getElem?_eq_getElem hlt
    refine .inr ⟨⟨xs, _, qx, hx⟩, Pv (i + 1), fun σ' H' p' => ⟨xs.length - (i + 1), by omega, rfl, hlt, p'⟩, fun v H' y => ?_⟩
    obtain ⟨T, x', rfl, hT, rfl, f1⟩ := y
    exact hs i x' T σ H (f1 xs qx) p hT
  · have e : i = xs.length := by omega
    subst e
    exact .inl ⟨⟨xs, qx, rfl⟩, hd σ H p⟩
end Wq
set_option Elab.async false
set_option linter.all false
set_option maxRecDepth 100000
set_option maxHeartbeats 4000000
namespace Wq
open PySem PySem.Spec PyProof.Rows L2
/-! ## zip of three tuples -/
def Itz3 (K : PySem.W.Frag) (a b c : Addr) : It :=
  ⟨fun i H => ∃ (xs ys zs : List V) (x y z : V), SqT K H a xs ∧ SqT K H b ys ∧ SqT K H c zs ∧ xs[i]? = some x ∧ ys[i]? = some y ∧ zs[i]? = some z,
    fun i H v H' => ∃ T x y z, v = .ref T ∧ H T = none ∧ H' = upd H T (.tup [x, y, z]) ∧ (∀ xs, SqT K H a xs → xs[i]? = some x) ∧ (∀ ys, SqT K H b ys → ys[i]? = some y) ∧ ∀ zs, SqT K H c zs → zs[i]? = some z,
    fun i H => ∃ xs ys zs : List V, SqT K H a xs ∧ SqT K H b ys ∧ SqT K H c zs ∧ xs.length = i ∧ ys.length = i ∧ zs.length = i⟩
structure Apart3 (n a b c : Nat) : Prop where
  a : a < n
  b : b < n
  c : c < n
theorem nm2 {x p q : Nat} (h1 : x ≠ p) (h2 : x ≠ q) : (x : Addr) ∉ ([p, q] : List Addr) := fun z => by
  rcases List.mem_cons.mp z with z | z
  · exact h1 z
  · exact h2 (List.mem_singleton.mp z)
theorem neA {x p : Nat} (h : x ≠ p) : (x : Addr) ≠ p := h
theorem sep3 {n a b c : Nat} (h : Apart3 n a b c) : ZipSep3 (n + 5) (n + 3) (n + 4) n (n + 1) (n + 2) [n, a] [n + 1, b] [n + 2, c] := by
  obtain ⟨ha, hb, hc⟩ := h
  constructor <;> first | exact List.mem_cons_self | (refine neA ?_; omega) | (refine nm2 ?_ ?_ <;> omega)
theorem ne_k {n a k : Nat} (h : a < n) : a ≠ n + k := by omega
theorem turn_zip3T {P : Program} {w : World} {K : PySem.W.Frag} {elts : List Expr} {kk : Nat} {tpos : Pos} {a b c n : Addr} (Ap : Apart3 n a b c) :
    Turn P w K (.Tuple elts kk tpos) (Itz3 K a b c) [n + 5, n + 3, n + 4, n, n + 1, n + 2] (n + 5) (fun i h => IsZip h (n + 5) (n + 3) (n + 4) .none ∧ IsTupOf3 h (n + 3) (.ref n) (.ref (n + 1)) (.ref (n + 2)) ∧ (∃ x y z, IsTupOf3 h (n + 4) x y z) ∧ h.IsTupleIter n a i ∧ h.IsTupleIter (n + 1) b i ∧ h.IsTupleIter (n + 2) c i) where
  mem := by simp
  obj := fun i h st d hd => by
    obtain ⟨hz, hTI, ⟨x, y, z, hTO⟩, ⟨o1, e1, _, d1⟩, ⟨o2, e2, _, d2⟩, ⟨o3, e3, _, d3⟩⟩ := st
    have e' : d = n + 5 ∨ d = n + 3 ∨ d = n + 4 ∨ d = n ∨ d = n + 1 ∨ d = n + 2 := by simpa using hd
    rcases e' with q | q | q | q | q | q
    · rw [q]; exact ⟨_, hz, fun v q => nomatch q⟩
    · rw [q]; exact ⟨_, hTI, fun v q => nomatch q⟩
    · rw [q]; exact ⟨_, hTO, fun v q => nomatch q⟩
    · rw [q]; exact ⟨o1, e1, fun v q => by rw [d1] at q; cases q⟩
    · rw [q]; exact ⟨o2, e2, fun v q => by rw [d2] at q; cases q⟩
    · rw [q]; exact ⟨o3, e3, fun v q => by rw [d3] at q; cases q⟩
  keep := fun i h h' st k => by
    obtain ⟨hz, hTI, ⟨x, y, z, hTO⟩, h1, h2, h3⟩ := st
    exact ⟨k _ (by simp) _ hz, k _ (by simp) _ hTI, ⟨x, y, z, k _ (by simp) _ hTO⟩, h1.at fun o q => k n (by simp) o q, h2.at fun o q => k (n + 1) (by simp) o q, h3.at fun o q => k (n + 2) (by simp) o q⟩
  item := by
    intro X hP hw hK hc i pins s σ H E I hf st hg
    subst hP hw hK
    obtain ⟨hz, hTI, ⟨x0, y0, z0, hTO⟩, h1, h2, h3⟩ := st
    obtain ⟨xs, ys, zs, x, y, z, hqx, hqy, hqz, hx, hy, hzz⟩ := hg
    obtain ⟨its, rv, p, _⟩ := I.tuple hqx
    obtain ⟨its2, rv2, p2, _⟩ := I.tuple hqy
    obtain ⟨its3, rv3, p3, _⟩ := I.tuple hqz
    obtain ⟨u, hu, ru⟩ := rv.get hx
    obtain ⟨u2, hu2, ru2⟩ := rv2.get hy
    obtain ⟨u3, hu3, ru3⟩ := rv3.get hzz
    have hu : its.toArray[i]? = some u := by simpa using hu
    have hu2 : its2.toArray[i]? = some u2 := by simpa using hu2
    have hu3 : its3.toArray[i]? = some u3 := by simpa using hu3
    have hzl : n + 5 < s.heap.objs.size := Heap.lt_size hz
    have hh : X.A.in1.handled = none := I.ok.hd hc
    have na : a ≠ n := Nat.ne_of_lt Ap.a
    have nb : b ≠ n + 1 := ne_k Ap.b
    have nc : c ≠ n + 2 := ne_k Ap.c
    refine wpAny_pyNext_zipD3_item (sep3 Ap) (Draws.tuple (prog := X.prog) (w := X.w) (A := X.A.in1) hh n a na its.toArray) (Draws.tuple (prog := X.prog) (w := X.w) (A := X.A.in1) hh (n + 1) b nb its2.toArray) (Draws.tuple (prog := X.prog) (w := X.w) (A := X.A.in1) hh (n + 2) c nc its3.toArray)
      hz hTI hTO ⟨h1, p⟩ ⟨h2, p2⟩ ⟨h3, p3⟩ (Array.getElem?_eq_some_iff.mp hu).1 (Array.getElem?_eq_some_iff.mp hu2).1 (Array.getElem?_eq_some_iff.mp hu3).1 fun v1 v2 v3 h' tk q1 q2 q3 z' TO' h1' h2' h3' hT hsz hk => ?_
    have ev1 : v1 = u := Option.some.inj ((show its.toArray[i]? = some v1 from q1).symm.trans hu)
    have ev2 : v2 = u2 := Option.some.inj ((show its2.toArray[i]? = some v2 from q2).symm.trans hu2)
    have ev3 : v3 = u3 := Option.some.inj ((show its3.toArray[i]? = some v3 from q3).symm.trans hu3)
    subst ev1 ev2 ev3
    refine ⟨_, rfl, wpAny_letOwnedTupleGo_zip (s := { s with heap := h', toks := tk }) z' fun h'' z'' sb => ?_⟩
    have hT2 : h''.get? s.heap.objs.size = some { cls := .type "tuple", data := .seq #[v1, v2, v3] } := (sb.2 _ (Nat.ne_of_gt hzl)).trans hT
    have new : ObjOk X.prog X.w (upd H s.heap.objs.size (.tup [x, y, z])) h'' s.heap.objs.size (.tup [x, y, z]) :=
      ⟨by show 3 ≤ sizeLine; decide, [v1, v2, v3], .cons ru (.cons ru2 (.cons ru3 .nil)), ⟨_, hT2, rfl, _, rfl⟩⟩
    have I1 : Inv X pins σ (upd H s.heap.objs.size (.tup [x, y, z])) { s with heap := h'', toks := tk } :=
      I.turnedNew (t' := tk) (ch := [n + 5, n + 3, n + 4, n, n + 1, n + 2]) (fun d o hb q => (sb.2 d (fun q' => hb (by simp [q']))).trans (hk d o (fun q' => hb (by simp [q'])) (fun q' => hb (by simp [q'])) (fun q' => hb (by simp [q'])) (fun q' => hb (by simp [q'])) (fun q' => hb (by simp [q'])) q)) hf (Nat.le_refl _) new
    have S := sep3 Ap
    refine ⟨.ref s.heap.objs.size, _, I1, rfl, ⟨_, x, y, z, rfl, I.hok.fresh (Nat.le_refl _), rfl, fun l hl => by rw [I.tuple_inj hl hqx]; exact hx, fun l hl => by rw [I.tuple_inj hl hqy]; exact hy, fun l hl => by rw [I.tuple_inj hl hqz]; exact hzz⟩, ⟨z'', ?_, ⟨v1, v2, v3, ?_⟩, ?_, ?_, ?_⟩, fun d hcm => ?_⟩
    · exact (sb.2 _ S.TIz).trans (hk _ _ S.TIz S.TITO S.TIi1 S.TIi2 S.TIi3 hTI)
    · exact (sb.2 _ S.TOz).trans TO'
    · exact h1'.1.at fun o q => (sb.2 _ (Ne.symm S.zi1)).trans q
    · exact h2'.1.at fun o q => (sb.2 _ (Ne.symm S.zi2)).trans q
    · exact h3'.1.at fun o q => (sb.2 _ (Ne.symm S.zi3)).trans q
    · have hlt : d < s.heap.objs.size := by
        have e' : d = n + 5 ∨ d = n + 3 ∨ d = n + 4 ∨ d = n ∨ d = n + 1 ∨ d = n + 2 := by simpa using hcm
        have hzl2 : (n : Nat) + 5 < s.heap.objs.size := hzl
        rcases e' with q | q | q | q | q | q <;> (rw [q]; first | exact hzl | exact Nat.lt_of_le_of_lt (Nat.add_le_add_left (by decide) n) hzl2 | exact Nat.lt_of_le_of_lt (Nat.le_add_right n 5) hzl2)
      rw [upd_ne (Nat.ne_of_lt hlt)]
      exact (hf d hcm).1
  done := by
    intro X hP hw hK hc i pins s σ H E I hf st hg
    subst hP hw hK
    obtain ⟨hz, hTI, ⟨x0, y0, z0, hTO⟩, h1, h2, h3⟩ := st
    obtain ⟨xs, ys, zs, hqx, hqy, hqz, e1, e2, e3⟩ := hg
    obtain ⟨its, rv, p, _⟩ := I.tuple hqx
    obtain ⟨its2, rv2, p2, _⟩ := I.tuple hqy
    obtain ⟨its3, rv3, p3, _⟩ := I.tuple hqz
    have l1 := rv.length
    have l2 := rv2.length
    have l3 := rv3.length
    have hh : X.A.in1.handled = none := I.ok.hd hc
    have na : a ≠ n := Nat.ne_of_lt Ap.a
    have nb : b ≠ n + 1 := ne_k Ap.b
    have nc : c ≠ n + 2 := ne_k Ap.c
    have s1 : i = its.toArray.size := by rw [List.size_toArray]; omega
    have s2 : i = its2.toArray.size := by rw [List.size_toArray]; omega
    have s3 : i = its3.toArray.size := by rw [List.size_toArray]; omega
    exact wpAny_pyNext_zipD3_end (i := i) (sep3 Ap) (Draws.tuple (prog := X.prog) (w := X.w) (A := X.A.in1) hh n a na its.toArray) (Draws.tuple (prog := X.prog) (w := X.w) (A := X.A.in1) hh (n + 1) b nb its2.toArray) (Draws.tuple (prog := X.prog) (w := X.w) (A := X.A.in1) hh (n + 2) c nc its3.toArray)
      hz hTI hTO ⟨h1, p⟩ ⟨h2, p2⟩ ⟨h3, p3⟩ (Nat.le_of_eq s1) (Nat.le_of_eq s2) (Nat.le_of_eq s3) (.inl s1) fun h' tk hk => ⟨rfl, I.turnedL (t' := tk) (ch := [n + 5, n + 3, n + 4, n, n + 1, n + 2]) (fun d o hb q =>
      hk d o (fun q' => hb (by simp [q'])) (fun q' => hb (by simp [q'])) (fun q' => hb (by simp [q'])) (fun q' => hb (by simp [q'])) (fun q' => hb (by simp [q'])) q) hf⟩
  self := fun A i s Q E st h => wpAny_pyIter_zip st.1 h
def iZip3 (K : PySem.W.Frag) (ta : TA) : TI := fun σ H R => ta σ H fun vs H1 => ∃ a b c xs ys zs, vs = [.ref a, .ref b, .ref c] ∧ SqT K H1 a xs ∧ SqT K H1 b ys ∧ SqT K H1 c zs ∧ R (Itz3 K a b c) H1
theorem pi_zip3T {X : Cx} {e e2 e3 : Expr} {ta : TA} {p pos tpos : Pos} {elts : List Expr} {kk : Nat} (hg : Gl X "zip") (hm : X.mg "zip" = none) (ha : PA X [e, e2, e3] ta)
    (hs : starEach [e, e2, e3] X.env = (false, eval e X.env) :: starEach [e2, e3] X.env := by rfl) (hpl : (backTo pos (starEach [e2, e3] X.env)).any (·.1) = false := by rfl) :
    PI X (.Tuple elts kk tpos) (.Call (.Name "zip" p) [e, e2, e3] [] pos) (iZip3 X.K ta) := by
  refine ⟨fun pins s σ H R I h => ?_⟩
  refine Call_ (ld_blt I hg hm PyProof.Rows.boot_zip (PyProof.Rows.callWith_type1 (thn (ha.run pos pins s σ H _ I h) fun us s1 ⟨vs, H1, I1, r1, q1⟩ => ?_) hs hpl))
  obtain ⟨a, b, c, xs, ys, zs, ex, hqx, hqy, hqz, q⟩ := q1
  subst ex
  cases r1 with
  | cons r rr =>
    cases rr with
    | cons r' rr =>
      cases rr with
      | cons r'' rr =>
        cases rr
        cases r
        cases r'
        cases r''
        obtain ⟨its, rv, p1, _⟩ := I1.tuple hqx
        obtain ⟨its2, rv2, p2, _⟩ := I1.tuple hqy
        obtain ⟨its3, rv3, p3, _⟩ := I1.tuple hqz
        obtain ⟨o1, ho1, _⟩ := id p1
        obtain ⟨o2, ho2, _⟩ := id p2
        obtain ⟨o3, ho3, _⟩ := id p3
        refine zip_begins3 (begins_tuple a its.toArray) (begins_tuple b its2.toArray) (begins_tuple c its3.toArray) p1 p2 p3 fun h' hz hTI hTO g1 g2 g3 hsz hk => wpAny_pyIter_zip hz ?_
        have I2 : Inv X pins σ H1 { s1 with heap := h' } := I1.kept (t' := s1.toks) hk
        refine ⟨s1.heap.objs.size + 5, [s1.heap.objs.size + 5, s1.heap.objs.size + 3, s1.heap.objs.size + 4, s1.heap.objs.size, s1.heap.objs.size + 1, s1.heap.objs.size + 2], _, _, H1, rfl, I2, turn_zip3T ⟨Heap.lt_size ho1, Heap.lt_size ho2, Heap.lt_size ho3⟩, ⟨hz, hTI, ⟨_, _, _, hTO⟩, ⟨_, g1, rfl, rfl⟩, ⟨_, g2, rfl, rfl⟩, ⟨_, g3, rfl, rfl⟩⟩, fun d hcm => ?_, q⟩
        have e' : d = s1.heap.objs.size + 5 ∨ d = s1.heap.objs.size + 3 ∨ d = s1.heap.objs.size + 4 ∨ d = s1.heap.objs.size ∨ d = s1.heap.objs.size + 1 ∨ d = s1.heap.objs.size + 2 := by simpa using hcm
        have hle : s1.heap.objs.size ≤ d := by
          rcases e' with z | z | z | z | z | z
          · rw [z]; exact Nat.le_add_right _ _
          · rw [z]; exact Nat.le_add_right _ _
          · rw [z]; exact Nat.le_add_right _ _
          · rw [z]; exact Nat.le_refl _
          · rw [z]; exact Nat.le_add_right _ _
          · rw [z]; exact Nat.le_add_right _ _
        exact I1.fpOk hle (I1.hok.fresh hle)
end Wq
set_option Elab.async false
set_option linter.all false
set_option maxRecDepth 100000
set_option maxHeartbeats 4000000
namespace Wq
open PySem PySem.Spec PyProof.Rows L2
def top (i : Nat) : Stmt := PySem.Challenge.pw_waypairs_k48_memos_of_two_ways.main.body.getD i (.Pass ⟨0, 0, 0, 0⟩)
/-! ## heaps -/
theorem same_new {H : Hp} {D : Addr} {o : HO} (h : H D = none) : Same H (upd H D o) := fun b u e => by
  rw [upd_ne (ne_of_none e h)]
  exact e
theorem Same.refl (H : Hp) : Same H H := fun _ _ e => e
theorem Same.trans {H H1 H2 : Hp} (a : Same H H1) (b : Same H1 H2) : Same H H2 := fun c o e => b c o (a c o e)
/-- all but what stands at p is as before -/
def But (p : Addr) (H H' : Hp) : Prop := ∀ b o, b ≠ p → H b = some o → H' b = some o
/-- the source at p: three ints, few turns -/
def Sc (p : Addr) (n : Nat) (H : Hp) : Prop := ∃ a b c : Int, H p = some (.lst [.int a, .int b, .int c]) ∧ 0 ≤ b ∧ b < 999983 ∧ 0 ≤ c ∧ c ≤ n
/-- from H to H' the source was drawn from, and things were made -/
structure Gs (p : Addr) (n : Nat) (H H' : Hp) : Prop where
  but : But p H H'
  sc : Sc p n H'
theorem Sc.le {p : Addr} {n m : Nat} {H : Hp} (h : Sc p n H) (l : n ≤ m) : Sc p m H := by
  obtain ⟨a, b, c, e, h1, h2, h3, h4⟩ := h
  exact ⟨a, b, c, e, h1, h2, h3, by omega⟩
theorem Sc.same {p : Addr} {n : Nat} {H H' : Hp} (h : Sc p n H) (s : Same H H') : Sc p n H' := by
  obtain ⟨a, b, c, e, r⟩ := h
  exact ⟨a, b, c, s _ _ e, r⟩
theorem Sc.at {p : Addr} {n : Nat} {H H' : Hp} (h : Sc p n H) (s : ∀ o, H p = some o → H' p = some o) : Sc p n H' := by
  obtain ⟨a, b, c, e, r⟩ := h
  exact ⟨a, b, c, s _ e, r⟩
theorem But.refl (p : Addr) (H : Hp) : But p H H := fun _ _ _ e => e
theorem But.trans {p : Addr} {H H1 H2 : Hp} (a : But p H H1) (b : But p H1 H2) : But p H H2 := fun c o n e => b c o n (a c o n e)
theorem But.of {p : Addr} {H H1 : Hp} (a : Same H H1) : But p H H1 := fun c o _ e => a c o e
theorem Gs.refl {p : Addr} {n : Nat} {H : Hp} (h : Sc p n H) : Gs p n H H := ⟨But.refl p H, h⟩
theorem Gs.trans {p : Addr} {n m : Nat} {H H1 H2 : Hp} (a : Gs p n H H1) (b : Gs p m H1 H2) : Gs p m H H2 := ⟨a.but.trans b.but, b.sc⟩
theorem Gs.same {p : Addr} {n : Nat} {H H1 H2 : Hp} (a : Gs p n H H1) (b : Same H1 H2) : Gs p n H H2 := ⟨a.but.trans (But.of b), a.sc.same b⟩
theorem Gs.new {p q : Addr} {n : Nat} {H H1 : Hp} {o : HO} (a : Gs p n H H1) (b : H1 q = none) : Gs p n H (upd H1 q o) := a.same (same_new b)
theorem Gs.le {p : Addr} {n m : Nat} {H H1 : Hp} (a : Gs p n H H1) (l : n ≤ m) : Gs p m H H1 := ⟨a.but, a.sc.le l⟩
/-- a thing of another shape is no source -/
theorem Sc.ne {p q : Addr} {n : Nat} {H : Hp} {o : HO} (h : Sc p n H) (e : H q = some o) (z : ∀ a b c : Int, o ≠ .lst [.int a, .int b, .int c]) : q ≠ p := by
  obtain ⟨a, b, c, e2, _⟩ := h
  exact ne_of e e2 (z a b c)
theorem Gs.tup {K : PySem.W.Frag} {p q : Addr} {n m : Nat} {H H' : Hp} {xs : List V} (g : Gs p m H H') (h : Sc p n H) (e : SqT K H q xs) : SqT K H' q xs := by
  rcases e with (e | ⟨o, e⟩) | e
  · exact .inl (.inl (g.but _ _ (h.ne e (by intro a b c z; cases z)) e))
  · exact .inl (.inr ⟨o, g.but _ _ (h.ne e (by intro a b c z; cases z)) e⟩)
  · exact .inr e
/-- a new thing filled anew: what stood before H1 goes on -/
theorem Gs.over {p D : Addr} {n : Nat} {H0 H : Hp} {o : HO} (g : Gs p n H0 H) (e : H0 D = none) (nd : D ≠ p) : Gs p n H0 (upd H D o) := by
  refine ⟨fun b u nb q => ?_, g.sc.at fun u q => ?_⟩
  · rw [upd_ne (ne_of_none q e)]
    exact g.but b u nb q
  · rw [upd_ne (Ne.symm nd)]
    exact q
/-! ## draw -/
abbrev sDraw : Stmt := top 6
def spDraw : Sp := fun vs H Q _ => ∃ (p : Addr) (m : Int) (n : Nat), vs = [.ref p, .int m] ∧ Sc p n H ∧ n ≤ 100000 ∧ 0 < m ∧ m ≤ 1000 ∧ ∀ (k : Int) H', 0 ≤ k → k < m → Gs p (n + 1) H H' → Q (.int k) H'
structure Bn (mg : Str → Option Value) : Prop where
  int : mg "int" = none
  len : mg "len" = none
  abs : mg "abs" = none
  range : mg "range" = none
  tuple : mg "tuple" = none
  max : mg "max" = none
  min : mg "min" = none
  zip : mg "zip" = none
  enumerate : mg "enumerate" = none
  isinstance : mg "isinstance" = none
  bool : mg "bool" = none
structure Known (P : Program) (w : World) (K : PySem.W.Frag) (mg : Str → Option Value) (base : Heap) (CX : CXT) (k : Nat) (x : Str) (ps : List Str) (sp : Sp) (f : Addr) (fd : FuncData) : Prop where
  ok : FnOk P w K mg base CX k f fd ps sp
  mg : mg x = some (.ref f)
  kp : PySem.W.keepIn K (.ref f) = true
  bi : Binds K fd ps []
theorem mod7 {x b : Int} (hb : 0 < b) : 0 ≤ x % b ∧ x % b < b := ⟨Int.emod_nonneg _ (by omega), Int.emod_lt_of_pos _ hb⟩
section
variable {P : Program} {w : World} {K : PySem.W.Frag} {mg : Str → Option Value} {base : Heap}
theorem scDraw : FnScope ["_law_source_here", "_law_many", "_law_digit", "_law_turn"] ["_law_source_here", "_law_many"] (defScope sDraw) := ⟨rfl, rfl, rfl, by decide +kernel, rfl, by decide +kernel, by decide +kernel⟩
theorem ok_draw {f : Addr} {fd : FuncData} (F : Fun K "_law_draw" "_law_draw" sDraw f fd) (B : Bn mg) : FnOk P w K mg base CX0 1 f fd ["_law_source_here", "_law_many"] spDraw := by
  refine F.ok scDraw (fun vs H Q E h => ?_) (fun cdv A outer s H vs Q E hr h => ?_)
  · obtain ⟨p, m, n, rfl, _⟩ := h
    rfl
  · obtain ⟨p, m, n, rfl, ⟨a, b, c, hp, b0, b1, c0, c1⟩, few, m0, m1, k⟩ := h
    refine ⟨_, pss_cons (ps_if (pt_cmpR op_gt (pe_ix ix_list (pv 0) pe_int (fun _ _ => rfl)) pe_int (nomark _))
        (pss_cons (ps_set (i := 2) scDraw.nd rfl (.inl rfl) (pe_op op_mod (pe_callTy call_int1 (by rfl) B.int PyProof.Rows.boot_int (pa_cons (pe_ix ix_list (pv 0) pe_int (fun _ _ => rfl)) pa_nil)) (pv 1)))
        (pss_cons (ps_asg (pe_op op_fdivN (pe_ix ix_list (pv 0) pe_int (fun _ _ => rfl)) (pv 1)) (pg_sub (pv 0) pe_int set_list))
        (pss_one (ps_ret (pv 2)))))
        pss_nil)
      (pss_cons (ps_asg (pe_op op_add (pe_ix ix_list (pv 0) pe_int (fun _ _ => rfl)) pe_int) (pg_sub (pv 0) pe_int set_list))
      (pss_cons (ps_set (i := 3) scDraw.nd rfl (.inl rfl) (pe_ix ix_list (pv 0) pe_int (fun _ _ => rfl)))
      (pss_cons (ps_asg (pe_op op_mod (pe_callTy call_int1 (by rfl) B.int PyProof.Rows.boot_int (pa_cons (pe_op op_add (pe_op op_mul (pe_op op_add (pe_ix ix_list (pv 0) pe_int (fun _ _ => rfl)) (pe_op op_mul pe_int (pv 3))) (pe_op op_add (pe_op op_add (pe_ix ix_list (pv 0) pe_int (fun _ _ => rfl)) (pe_op op_mul pe_int (pv 3))) pe_int)) (pe_op op_mul pe_int (pv 3))) pa_nil)) pe_int) (pg_sub (pv 0) pe_int set_list))
      (pss_one (ps_ret (pe_op op_mod (pe_callTy call_int1 (by rfl) B.int PyProof.Rows.boot_int (pa_cons (pe_op op_fdiv (pe_ix ix_list (pv 0) pe_int (fun _ _ => rfl)) pe_int) pa_nil)) (pv 1))))))), ?_⟩
    refine ⟨_, rfl, p, _, _, _, rfl, rfl, SqL.of hp, atI_nat (j := 0) rfl, _, _, rfl, rfl, _, rfl, ?_⟩
    refine ite2 (fun _ => ?_) (fun _ => ?_)
    · refine ⟨_, rfl, p, _, _, _, rfl, rfl, SqL.of hp, atI_nat (j := 0) rfl, .inl ⟨_, rfl, _, rfl, _, _, rfl, rfl, m0, ?_⟩⟩
      refine ⟨_, rfl, p, _, _, _, rfl, rfl, SqL.of hp, atI_nat (j := 0) rfl, _, rfl, _, _, rfl, rfl, ⟨by omega, by omega⟩, _, rfl, p, _, _, 0, rfl, rfl, hp, rfl, ?_⟩
      refine ⟨_, rfl, k _ _ (mod7 m0).1 (mod7 m0).2 ⟨fun b o nb e => ?_, _, _, _, upd_same, b0, b1, c0, by omega⟩⟩
      rw [upd_ne nb]
      exact e
    · refine ⟨_, rfl, p, _, _, _, rfl, rfl, SqL.of hp, atI_nat (j := 2) rfl, _, _, rfl, rfl, _, rfl, p, _, _, 2, rfl, rfl, hp, rfl, ?_⟩
      refine ⟨_, rfl, p, _, _, _, rfl, rfl, SqL.of upd_same, atI_nat (j := 2) rfl, ?_⟩
      refine ⟨_, rfl, p, _, _, _, rfl, rfl, SqL.of upd_same, atI_nat (j := 1) rfl, _, rfl, _, _, rfl, rfl, .inl ⟨by decide, by decide⟩, _, _, rfl, rfl, ?_⟩
      refine ⟨_, rfl, p, _, _, _, rfl, rfl, SqL.of upd_same, atI_nat (j := 1) rfl, _, rfl, _, _, rfl, rfl, .inl ⟨by decide, by decide⟩, _, _, rfl, rfl, _, _, rfl, rfl, _, _, rfl, rfl, .inl ⟨by omega, by omega⟩, ?_⟩
      refine ⟨_, rfl, _, _, rfl, rfl, .inl ⟨by decide, by decide⟩, _, _, rfl, rfl, .inl ⟨_, rfl, _, _, rfl, rfl, (by show (0 : Int) < 999983; decide), _, rfl, p, _, _, 1, rfl, rfl, upd_same, rfl, ?_⟩⟩
      refine ⟨_, rfl, p, _, _, _, rfl, rfl, SqL.of upd_same, atI_nat (j := 1) rfl, _, _, rfl, rfl, ⟨by decide, by decide⟩, .inl ⟨_, rfl, _, rfl, _, _, rfl, rfl, m0, ?_⟩⟩
      refine k _ _ (mod7 m0).1 (mod7 m0).2 ⟨fun b o nb e => ?_, _, _, _, upd_same, (mod7 (by decide)).1, (mod7 (by decide)).2, by omega, by omega⟩
      rw [upd_ne nb, upd_ne nb]
      exact e
/-! ## one of some -/
abbrev sOf : Stmt := top 7
def spOf (K : PySem.W.Frag) : Sp := fun vs H Q _ => ∃ (p q : Addr) (n : Nat) (xs : List V), vs = [.ref p, .ref q] ∧ Sc p n H ∧ n ≤ 100000 ∧ SqL K H q xs ∧ q ≠ p ∧ 0 < xs.length ∧ xs.length ≤ 1000 ∧ ∀ x H', x ∈ xs → Gs p (n + 1) H H' → Q x H'
theorem scOf : FnScope ["_law_source_here", "_law_some"] ["_law_source_here", "_law_some"] (defScope sOf) := ⟨rfl, rfl, rfl, by decide +kernel, rfl, by decide +kernel, by decide +kernel⟩
theorem sqL_at {K : PySem.W.Frag} {H H' : Hp} {q : Addr} {xs : List V} (h : SqL K H q xs) (k : ∀ o, H q = some o → H' q = some o) : SqL K H' q xs := by
  rcases h with (h | ⟨o, h⟩) | h
  · exact .inl (.inl (k _ h))
  · exact .inl (.inr ⟨o, k _ h⟩)
  · exact .inr h
theorem ok_of {f fD : Addr} {fd fdD : FuncData} (F : Fun K "_law_of" "_law_of" sOf f fd) (B : Bn mg) (D : Known P w K mg base CX0 1 "_law_draw" ["_law_source_here", "_law_many"] spDraw fD fdD) : FnOk P w K mg base CX0 2 f fd ["_law_source_here", "_law_some"] (spOf K) := by
  refine F.ok scOf (fun vs H Q E h => ?_) (fun cdv A outer s H vs Q E hr h => ?_)
  · obtain ⟨p, q, n, xs, rfl, _⟩ := h
    rfl
  · obtain ⟨p, q, n, xs, rfl, S, few, hq, nq, l0, l1, k⟩ := h
    refine ⟨_, pss_one (ps_ret (pe_ix ix_list (pv 1) (pe_call D.ok (hr.mono (by decide)) rfl D.mg D.kp D.bi .nil pass0 (pa_cons (pv 0) (pa_cons (pe_callB call_len_seq (by rfl) B.len PySem.boot_len (pa_cons (pv 1) pa_nil)) pa_nil))) (fun _ _ => rfl))), ?_⟩
    refine ⟨_, rfl, _, rfl, _, rfl, q, _, rfl, .inl hq, p, (xs.length : Int), n, rfl, S, few, by omega, by omega, fun v H' v0 v1 g => ?_⟩
    obtain ⟨j, rfl⟩ := Int.eq_ofNat_of_zero_le v0
    have hj : j < xs.length := by omega
    have hx : xs[j]? = some xs[j] := List.getElem?_eq_getElem hj
    exact ⟨q, _, _, _, rfl, rfl, sqL_at hq (fun o e => g.but _ _ nq e), atI_nat hx, k _ _ (List.getElem_mem hj) g⟩
end
end Wq
set_option Elab.async false
set_option linter.all false
set_option maxRecDepth 100000
set_option maxHeartbeats 4000000
namespace Wq
open PySem PySem.Spec PyProof.Rows L2
/-! ## the source made -/
abbrev sSource : Stmt := top 5
def spSource (K : PySem.W.Frag) : Sp := fun vs H Q _ => ∃ (s : Addr) (ns : List Int) (pl : Int), vs = [.ref s, .int pl] ∧ SqL K H s (ns.map V.int) ∧ ns.length ≤ 63 ∧ 0 ≤ pl ∧ ∀ p H', Same H H' → H p = none → Sc p 0 H' → Q (.ref p) H'
theorem ne_of_none_r {p D : Addr} {n : Nat} {H : Hp} (S : Sc p n H) (h : H D = none) : D ≠ p := by
  obtain ⟨a, b, c, e, _⟩ := S
  exact Ne.symm (ne_of_none e h)
section
variable {P : Program} {w : World} {K : PySem.W.Frag} {mg : Str → Option Value} {base : Heap}
theorem scSource : FnScope ["_law_script", "_law_place", "_law_cell", "_law_size"] ["_law_script", "_law_place"] (defScope sSource) := ⟨rfl, rfl, rfl, by decide +kernel, rfl, by decide +kernel, by decide +kernel⟩
theorem ok_source {f : Addr} {fd : FuncData} (F : Fun K "_law_source" "_law_source" sSource f fd) (B : Bn mg) : FnOk P w K mg base CX0 1 f fd ["_law_script", "_law_place"] (spSource K) := by
  refine F.ok scSource (fun vs H Q E h => ?_) (fun cdv A outer s H vs Q E hr h => ?_)
  · obtain ⟨p, ns, pl, rfl, _⟩ := h
    rfl
  · obtain ⟨p, ns, pl, rfl, hS, few, p0, k⟩ := h
    obtain ⟨tC, hC, qC⟩ : ∃ t, PSs (cxOf CX0 P w K mg base ["_law_script", "_law_place", "_law_cell", "_law_size"] "_law_source" (defScope sSource) f cdv A outer s H E).nox ((defBody sSource).drop 1) t ∧
        ∀ (cell : Int), t { nx := fun _ H' => Q .non H', rt := Q } [some (.ref p), some (.int pl), some (.int cell), none] H := by
      refine ⟨_, pss_cons (ps_set (i := 3) scSource.nd rfl (.inl rfl) (pe_callB call_abs (by rfl) B.abs (by decide +kernel) (pa_cons (pe_callTy call_int1 (by rfl) B.int PyProof.Rows.boot_int (pa_cons (pv 2) pa_nil)) pa_nil)))
        (pss_one (ps_ret (pe_lst (pa_cons (pe_ifExp (pt_cmpR op_ge (pv 3) (pe_op op_pow pe_int pe_int) (nomark _)) (pv 3) pe_int)
          (pa_cons (pe_op op_mod (pe_callTy call_int1 (by rfl) B.int PyProof.Rows.boot_int (pa_cons (pe_op op_add (pe_op op_add (pe_op op_add (pe_op op_mul (pv 3) pe_int) (pe_op op_mul pe_int (pv 1))) pe_int) (pe_callTy call_int1 (by rfl) B.int PyProof.Rows.boot_int (pa_cons (pe_cmpR op_lt (pv 2) pe_int (nomark _)) pa_nil))) pa_nil)) pe_int)
          (pa_cons pe_int pa_nil)))))), ?_⟩
      intro cell
      refine ⟨_, rfl, .inl ⟨_, rfl, _, rfl, ?_⟩⟩
      refine ⟨_, rfl, _, _, rfl, rfl, ⟨by decide, by decide, by decide⟩, _, _, rfl, rfl, _, rfl, ?_⟩
      refine ite2 (fun _ => ⟨_, rfl, ?_⟩) (fun _ => ?_)
      all_goals
        refine ⟨_, rfl, _, _, rfl, rfl, .inr (by decide), _, rfl, _, _, rfl, rfl, .inl ⟨by decide, by decide⟩, _, _, rfl, rfl, _, _, rfl, rfl, ?_⟩
        refine ⟨_, rfl, _, _, rfl, rfl, .inr ⟨_, rfl, _, _, rfl, rfl, .inl ⟨_, rfl, _, _, rfl, rfl, (by show (0 : Int) < 999983; decide), ?_⟩⟩⟩
        refine ⟨(by show 3 ≤ sizeLine; decide), fun l hl => ?_⟩
        exact k l _ (same_new hl) hl ⟨_, _, _, upd_same, (mod7 (by decide)).1, (mod7 (by decide)).2, by decide, by decide⟩
    refine ⟨_, pss_cons (ps_set (i := 2) scSource.nd rfl (.inl rfl) (pe_ifExp (pt_cmpR op_lt (pv 1) (pe_callB call_len_seq (by rfl) B.len PySem.boot_len (pa_cons (pv 0) pa_nil)) (nomark _)) (pe_ix ix_list (pv 0) (pv 1) (fun _ _ => rfl)) pe_int)) hC, ?_⟩
    refine ⟨_, rfl, _, rfl, p, _, rfl, .inl hS, _, _, rfl, rfl, _, rfl, ?_⟩
    refine ite2 (fun hlt => ?_) (fun _ => ?_)
    · have hlt := of_decide_eq_true hlt
      rw [List.length_map] at hlt
      obtain ⟨j, rfl⟩ := Int.eq_ofNat_of_zero_le p0
      have hj : j < ns.length := by omega
      have hx : (ns.map V.int)[j]? = some (V.int ns[j]) := by
        rw [List.getElem?_map, List.getElem?_eq_getElem hj]
        rfl
      exact ⟨_, rfl, _, rfl, p, _, _, _, rfl, rfl, hS, atI_nat hx, qC _⟩
    · exact qC 0
/-! ## tuples drawn -/
abbrev sMade : Stmt := top 8
def spMade : Sp := fun vs H Q _ => ∃ (p : Addr) (n : Nat) (m : Nat), vs = [.ref p, .int m] ∧ Sc p n H ∧ n ≤ 10000 ∧ m ≤ 4 ∧ ∀ (t : Addr) (md : List Int) H', H t = none → H' t = some (.tup (md.map V.int)) → Gs p (n + 4) H H' → Q (.ref t) H'
theorem scMade : FnScope ["_law_source_here", "_law_size", "_law_travel"] ["_law_source_here", "_law_size"] (defScope sMade) := ⟨rfl, rfl, rfl, by decide +kernel, rfl, by decide +kernel, by decide +kernel⟩
theorem ok_made {f fD : Addr} {fd fdD : FuncData} (F : Fun K "_law_made" "_law_made" sMade f fd) (B : Bn mg) (D : Known P w K mg base CX0 1 "_law_draw" ["_law_source_here", "_law_many"] spDraw fD fdD) : FnOk P w K mg base CX0 2 f fd ["_law_source_here", "_law_size"] spMade := by
  refine F.ok scMade (fun vs H Q E h => ?_) (fun cdv A outer s H vs Q E hr h => ?_)
  · obtain ⟨p, n, m, rfl, _⟩ := h
    rfl
  · obtain ⟨p, n, m, rfl, S, few, m4, k⟩ := h
    refine ⟨_, pss_one (ps_ret (pe_callTy call_tuple_of (by rfl) B.tuple PyProof.Rows.boot_tuple (pa_cons (pe_lc (own := [("_law_travel", 2)]) (g := gName 2) (te := tVar 2) rfl scMade.nd (pi_range2 rfl B.range (pa_cons pe_int (pa_cons (pe_op op_add (pv 1) pe_int) pa_nil)))
        (blkOk_by (N := ["_law_source_here", "_law_size", "_law_travel"]) (sc := defScope sMade) (by decide +kernel)) (fun _ _ _ _ _ => pg_name (i := 2) scMade.nd rfl (Or.inl rfl))
        (fun _ _ _ _ _ => pts_one (pt_cmpR op_gt (pe_call D.ok hr rfl D.mg D.kp D.bi .nil pass0 (pa_cons (pv 0) (pa_cons pe_int pa_nil))) pe_int (nomark _)))
        (fun _ _ _ _ _ => pv 2)) pa_nil))), ?_⟩
    refine ⟨_, rfl, _, _, rfl, rfl, 1, _, rfl, ⟨by decide, by decide, by omega, by omega⟩, fun D hD => ?_⟩
    have en : ((m : Int) + 1 - 1).toNat = m := by omega
    rw [en]
    refine lc_it walk_range (fun i H' => Gs p (n + i) H H' ∧ ∃ md : List Int, md.length ≤ i ∧ H' D = some (.lst (md.map V.int))) ⟨(Gs.refl S).new hD, [], Nat.le_refl _, upd_same⟩ (fun _ _ _ _ => trivial) ?_ ?_
    · rintro i y H5 H6 hi ⟨go, md, lm, eD⟩ ⟨rfl, rfl⟩
      have nD : D ≠ p := ne_of_none_r S hD
      refine ⟨rfl, ?_⟩
      refine ⟨_, rfl, p, 4, n + i, rfl, go.sc, by omega, by decide, by decide, fun v H7 v0 v1 g => ?_⟩
      refine ⟨_, _, rfl, rfl, _, rfl, ?_⟩
      have g2 := go.trans g
      have eD2 := g.but _ _ nD eD
      refine ite2 (fun _ => ?_) (fun _ => ?_)
      · refine ⟨_, rfl, md.map V.int, eD2, ?_, g2.over hD nD, md ++ [1 + (i : Int)], ?_, ?_⟩
        · rw [List.length_map, sizeLine_eq]
          omega
        · rw [List.length_append]
          show md.length + 1 ≤ i + 1
          omega
        · rw [upd_same, List.map_append]
          rfl
      · exact ⟨g2, md, by omega, eD2⟩
    · rintro H5 ⟨go, md, lm, eD⟩
      refine ⟨D, _, rfl, .inl ⟨SqL.of eD, fun l hl => ?_⟩⟩
      have hlH : H l = none := by
        cases e : H l with
        | none => rfl
        | some o =>
          exfalso
          by_cases z : l = p
          · obtain ⟨a, b, c, q, _⟩ := go.sc
            rw [z, q] at hl
            cases hl
          · rw [go.but _ _ z e] at hl
            cases hl
      exact k l md _ hlH upd_same ((go.new hl).le (by omega))
abbrev sFlags : Stmt := top 9
def spFlags : Sp := fun vs H Q _ => ∃ (p : Addr) (n : Nat) (m : Nat), vs = [.ref p, .int m] ∧ Sc p n H ∧ n ≤ 10000 ∧ m ≤ 4 ∧ ∀ (t : Addr) (bs : List Bool) H', bs.length = m → H t = none → H' t = some (.tup (bs.map V.bl)) → Gs p (n + 4) H H' → Q (.ref t) H'
theorem scFlags : FnScope ["_law_source_here", "_law_size", "_law_travel"] ["_law_source_here", "_law_size"] (defScope sFlags) := ⟨rfl, rfl, rfl, by decide +kernel, rfl, by decide +kernel, by decide +kernel⟩
theorem ok_flags {f fD : Addr} {fd fdD : FuncData} (F : Fun K "_law_flags" "_law_flags" sFlags f fd) (B : Bn mg) (D : Known P w K mg base CX0 1 "_law_draw" ["_law_source_here", "_law_many"] spDraw fD fdD) : FnOk P w K mg base CX0 2 f fd ["_law_source_here", "_law_size"] spFlags := by
  refine F.ok scFlags (fun vs H Q E h => ?_) (fun cdv A outer s H vs Q E hr h => ?_)
  · obtain ⟨p, n, m, rfl, _⟩ := h
    rfl
  · obtain ⟨p, n, m, rfl, S, few, m4, k⟩ := h
    refine ⟨_, pss_one (ps_ret (pe_callTy call_tuple_of (by rfl) B.tuple PyProof.Rows.boot_tuple (pa_cons (pe_lc (own := [("_law_travel", 2)]) (g := gName 2) (tt := tYes) (te := tOp (rI0 fun i j => .bl (decide (j < i))) (tCall spDraw [] E0 (tCons (tVar 0) (tCons (tC (.int 3)) tNil))) (tC (.int 0))) rfl scFlags.nd (pi_range1 rfl B.range (pa_cons (pv 1) pa_nil))
        (blkOk_by (N := ["_law_source_here", "_law_size", "_law_travel"]) (sc := defScope sFlags) (by decide +kernel)) (fun _ _ _ _ _ => pg_name (i := 2) scFlags.nd rfl (Or.inl rfl))
        (fun _ _ _ _ _ => pts_nil)
        (fun _ _ _ _ _ => pe_cmpR op_gt (pe_call D.ok hr rfl D.mg D.kp D.bi .nil pass0 (pa_cons (pv 0) (pa_cons pe_int pa_nil))) pe_int (nomark _))) pa_nil))), ?_⟩
    refine ⟨_, rfl, (m : Int), rfl, by omega, by omega, fun D hD => ?_⟩
    have en : (m : Int).toNat = m := by omega
    rw [en]
    refine lc_it walk_range (fun i H' => Gs p (n + i) H H' ∧ ∃ bs : List Bool, bs.length = i ∧ H' D = some (.lst (bs.map V.bl))) ⟨(Gs.refl S).new hD, [], rfl, upd_same⟩ (fun _ _ _ _ => trivial) ?_ ?_
    · rintro i y H5 H6 hi ⟨go, bs, lm, eD⟩ ⟨rfl, rfl⟩
      have nD : D ≠ p := ne_of_none_r S hD
      refine ⟨rfl, ?_⟩
      refine ⟨_, rfl, p, 3, n + i, rfl, go.sc, by omega, by decide, by decide, fun v H7 v0 v1 g => ?_⟩
      refine ⟨_, _, rfl, rfl, bs.map V.bl, g.but _ _ nD eD, ?_, (go.trans g).over hD nD, bs ++ [decide (0 < v)], ?_, ?_⟩
      · rw [List.length_map, sizeLine_eq]
        omega
      · rw [List.length_append]
        show bs.length + 1 = i + 1
        omega
      · rw [upd_same, List.map_append]
        rfl
    · rintro H5 ⟨go, bs, lm, eD⟩
      refine ⟨D, _, rfl, .inl ⟨SqL.of eD, fun l hl => ?_⟩⟩
      have hlH : H l = none := by
        cases e : H l with
        | none => rfl
        | some o =>
          exfalso
          by_cases z : l = p
          · obtain ⟨a, b, c, q, _⟩ := go.sc
            rw [z, q] at hl
            cases hl
          · rw [go.but _ _ z e] at hl
            cases hl
      exact k l bs _ lm hlH upd_same ((go.new hl).le (by omega))
end
end Wq
set_option Elab.async false
set_option linter.all false
set_option maxRecDepth 100000
set_option maxHeartbeats 4000000
namespace Wq
open PySem PySem.Spec PyProof.Rows L2
def loopBody : Stmt → List Stmt
  | .For _ _ b _ _ => b
  | _ => []
/-! ## walks of zip -/
theorem walk_zipT {K : PySem.W.Frag} {a b : Addr} {xs ys : List V} {n : Nat} (hx : xs.length = n) (hy : ys.length = n) : Walk (RZ.ItzT K a b) n (fun H => SqT K H a xs ∧ SqT K H b ys) (YPair (fun i => xs[i]?) (fun i => ys[i]?)) := by
  refine ⟨fun i _ hi q => ?_, fun _ q => ⟨xs, ys, q.1, q.2, by omega⟩, fun i H v H' _ q y => ?_⟩
  · have h1 : i < xs.length := by omega
    have h2 : i < ys.length := by omega
    exact ⟨xs, ys, xs[i], ys[i], q.1, q.2, by simp [h1], by simp [h2]⟩
  · obtain ⟨T, x, z, h1, h2, h3, h4, h5⟩ := y
    exact ⟨T, x, z, h1, h2, h3, h4 xs q.1, h5 ys q.2⟩
theorem walk_zip3T {K : PySem.W.Frag} {a b c : Addr} {xs ys zs : List V} {n : Nat} (hx : xs.length = n) (hy : ys.length = n) (hz : zs.length = n) : Walk (Itz3 K a b c) n (fun H => SqT K H a xs ∧ SqT K H b ys ∧ SqT K H c zs)
    (fun i H v H' => ∃ T x y z, v = .ref T ∧ H T = none ∧ H' = upd H T (.tup [x, y, z]) ∧ xs[i]? = some x ∧ ys[i]? = some y ∧ zs[i]? = some z) := by
  refine ⟨fun i _ hi q => ?_, fun _ q => ⟨xs, ys, zs, q.1, q.2.1, q.2.2, by omega, by omega, by omega⟩, fun i H v H' _ q y => ?_⟩
  · have h1 : i < xs.length := by omega
    have h2 : i < ys.length := by omega
    have h3 : i < zs.length := by omega
    exact ⟨xs, ys, zs, xs[i], ys[i], zs[i], q.1, q.2.1, q.2.2, by simp [h1], by simp [h2], by simp [h3]⟩
  · obtain ⟨T, x, y, z, h1, h2, h3, h4, h5, h6⟩ := y
    exact ⟨T, x, y, z, h1, h2, h3, h4 xs q.1, h5 ys q.2.1, h6 zs q.2.2⟩
theorem flat_ints (md : List Int) : (md.map V.int).all flatV = true := by
  induction md with
  | nil => rfl
  | cons a l ih =>
    rw [List.map_cons, List.all_cons, ih]
    rfl
def hasI (md : List Int) (k : Nat) : Bool := inV (.int ((k : Int) + 1)) (md.map V.int)
theorem in_tup {K : PySem.W.Frag} {H : Hp} {a : Addr} {md : List Int} {i : Nat} {Q : VK} (h : SqT K H a (md.map V.int)) (q : Q (.bl (hasI md i)) H) : rIn K false (.int ((i : Nat) + 1)) (.ref a) H Q :=
  ⟨a, _, rfl, .inr h, rfl, flat_ints md, q⟩
theorem tup_same {K : PySem.W.Frag} {H H' : Hp} {a : Addr} {xs : List V} (s : Same H H') (h : SqT K H a xs) : SqT K H' a xs := by
  rcases h with (h | ⟨o, h⟩) | h
  · exact .inl (.inl (s _ _ h))
  · exact .inl (.inr ⟨o, s _ _ h⟩)
  · exact .inr h
theorem lst_same {K : PySem.W.Frag} {H H' : Hp} {a : Addr} {xs : List V} (s : Same H H') (h : SqL K H a xs) : SqL K H' a xs := sqL_at h (fun o e => s _ _ e)
theorem map_at {α : Type} {f : α → V} {l : List α} {i : Nat} {x : α} (h : l[i]? = some x) : (l.map f)[i]? = some (f x) := by
  rw [List.getElem?_map, h]
  rfl
theorem at_map {α : Type} {f : α → V} {l : List α} {i : Nat} {v : V} (h : (l.map f)[i]? = some v) : ∃ x, l[i]? = some x ∧ v = f x := by
  rw [List.getElem?_map] at h
  cases e : l[i]? with
  | none =>
    rw [e] at h
    cases h
  | some x =>
    rw [e] at h
    exact ⟨x, rfl, (Option.some.inj h).symm⟩
/-! ## the mathematics -/
def goes (f : Str) (m : Bool) : Bool := m && decide (f = "goes")
def both (md ot : List Int) (i : Nat) : Bool := hasI md i && hasI ot i
/-- what is kept, travel by travel, where both things were made -/
def res (md ot : List Int) (ks : List Bool) (n : Nat) : List Bool := (List.range n).map fun i => both md ot i && ks[i]?.getD false
theorem res_len (md ot : List Int) (ks : List Bool) (n : Nat) : (res md ot ks n).length = n := by simp [res]
theorem res_succ (md ot : List Int) (ks : List Bool) (n : Nat) : res md ot ks (n + 1) = res md ot ks n ++ [both md ot n && ks[n]?.getD false] := by simp [res, List.range_succ]
def keptA (fs : List Str) (ms : List Bool) : List Bool := (fs.zip ms).map fun p => goes p.1 p.2
def keptT (fs : List Str) (ms ss : List Bool) : List Bool := ((fs.zip ms).zip ss).map fun p => p.2 || goes p.1.1 p.1.2
theorem keptA_at {fs : List Str} {ms : List Bool} {i : Nat} {f : Str} {m : Bool} (hf : fs[i]? = some f) (hm : ms[i]? = some m) : (keptA fs ms)[i]? = some (goes f m) := by
  unfold keptA
  rw [List.getElem?_map, (List.getElem?_zip_eq_some (z := (f, m))).mpr ⟨hf, hm⟩]
  rfl
theorem keptT_at {fs : List Str} {ms ss : List Bool} {i : Nat} {f : Str} {m s : Bool} (hf : fs[i]? = some f) (hm : ms[i]? = some m) (hs : ss[i]? = some s) : (keptT fs ms ss)[i]? = some (s || goes f m) := by
  unfold keptT
  rw [List.getElem?_map, (List.getElem?_zip_eq_some (z := ((f, m), s))).mpr ⟨(List.getElem?_zip_eq_some (z := (f, m))).mpr ⟨hf, hm⟩, hs⟩]
  rfl
theorem keptA_len {fs : List Str} {ms : List Bool} {n : Nat} (hf : fs.length = n) (hm : ms.length = n) : (keptA fs ms).length = n := by simp [keptA, hf, hm]
theorem keptT_len {fs : List Str} {ms ss : List Bool} {n : Nat} (hf : fs.length = n) (hm : ms.length = n) (hs : ss.length = n) : (keptT fs ms ss).length = n := by simp [keptT, hf, hm, hs]
/-- two lists of one length with the same items -/
theorem ext_at {α : Type} {xs ys : List α} {n : Nat} (hx : xs.length = n) (hy : ys.length = n) (h : ∀ (i : Nat) (x y : α), xs[i]? = some x → ys[i]? = some y → x = y) : xs = ys := by
  apply List.ext_getElem (hx.trans hy.symm)
  intro i h1 h2
  exact h i _ _ (List.getElem?_eq_getElem h1) (List.getElem?_eq_getElem h2)
section
variable {P : Program} {w : World} {K : PySem.W.Frag} {mg : Str → Option Value} {base : Heap}
/-! ## memos after -/
abbrev sAfter : Stmt := top 1
def spAfter (K : PySem.W.Frag) : Sp := fun vs H Q _ => ∃ (n : Nat) (a md ot k : Addr) (fs : List V) (mdl otl : List Int) (ks : List Bool), vs = [.ref a, .ref md, .ref ot, .ref k] ∧ SqT K H a fs ∧ SqT K H md (mdl.map V.int) ∧ SqT K H ot (otl.map V.int) ∧ SqL K H k (ks.map V.bl) ∧ fs.length = n ∧ ks.length = n ∧ n ≤ 4 ∧
  ∀ (t : Addr) H', Same H H' → H t = none → H' t = some (.tup ((res mdl otl ks n).map V.bl)) → Q (.ref t) H'
theorem scAfter : FnScope ["fates", "made", "others", "kept", "found", "at"] ["fates", "made", "others", "kept"] (defScope sAfter) := ⟨rfl, rfl, rfl, by decide +kernel, rfl, by decide +kernel, by decide +kernel⟩
theorem ok_after {f : Addr} {fd : FuncData} (F : Fun K "_memos_after" "_memos_after" sAfter f fd) (B : Bn mg) : FnOk P w K mg base CX0 1 f fd ["fates", "made", "others", "kept"] (spAfter K) := by
  refine F.ok scAfter (fun vs H Q E h => ?_) (fun cdv A outer s H vs Q E hr h => ?_)
  · obtain ⟨n, a, md, ot, k, fs, mdl, otl, ks, rfl, _⟩ := h
    rfl
  · obtain ⟨n, a, md, ot, k, fs, mdl, otl, ks, rfl, qf, qm, qo, qk, lf, lk, n4, kq⟩ := h
    refine ⟨_, pss_cons (ps_set (i := 4) scAfter.nd rfl (.inl rfl) (pe_lst pa_nil))
      (pss_cons (ps_for PassesOwn.never rfl (pi_range1 (by rfl) B.range (pa_cons (pe_callB call_len_seq (by rfl) B.len PySem.boot_len (pa_cons (pv 0) pa_nil)) pa_nil)) (pg_name (i := 5) scAfter.nd rfl (.inl rfl))
        (pss_one (ps_expr (pe_bm PySem.F.plainAttrs_list PySem.F.slot_list_append PySem.F.type_list_append mt_append (pv 4) (pa_cons (pe_and (pe_cmpR op_in_seq (pe_op op_add (pv 5) pe_int) (pv 1) (by rfl)) (pe_and (pe_cmpR op_in_seq (pe_op op_add (pv 5) pe_int) (pv 2) (by rfl)) (pe_one (pe_ix ix_list (pv 3) (pv 5) (fun _ _ => rfl))))) pa_nil)))))
      (pss_one (ps_ret (pe_callTy call_tuple_of (by rfl) B.tuple PyProof.Rows.boot_tuple (pa_cons (pv 4) pa_nil))))), ?_⟩
    refine ⟨Nat.zero_le _, fun l hl => ?_⟩
    have s0 : Same H (upd H l (.lst [])) := same_new hl
    refine ⟨_, rfl, a, fs, rfl, .inr (tup_same s0 qf), _, rfl, by omega, by omega, ?_⟩
    have en : ((fs.length : Nat) : Int).toNat = n := by omega
    rw [en]
    refine for_range (fun i σ H' => Same H H' ∧ H' l = some (.lst ((res mdl otl ks i).map V.bl)) ∧ ∃ y5, σ = [some (.ref a), some (.ref md), some (.ref ot), some (.ref k), some (.ref l), y5]) ⟨s0, upd_same, _, rfl⟩ ?_ ?_
    · rintro i σ H3 hi ⟨s3, e3, y5, rfl⟩
      rw [Int.zero_add]
      obtain ⟨ki, hki⟩ : ∃ b, ks[i]? = some b := ⟨_, List.getElem?_eq_getElem (by omega)⟩
      have lz : ((res mdl otl ks i).map V.bl).length < sizeLine := by
        rw [List.length_map, res_len, sizeLine_eq]
        omega
      have last : (upd H3 l (.lst ((res mdl otl ks i).map V.bl ++ [.bl (both mdl otl i && ki)]))) l = some (.lst ((res mdl otl ks (i + 1)).map V.bl)) := by
        rw [upd_same, res_succ, List.map_append, hki]
        rfl
      have keep : ∀ o, Same H (upd H3 l o) := fun o c u e => by
        rw [upd_ne (ne_of_none e hl)]
        exact s3 _ _ e
      have fin : ∀ b, b = (both mdl otl i && ki) → ∃ (l2 : Addr) (xs : List V) (y : V), V.ref l = .ref l2 ∧ [V.bl b] = [y] ∧ H3 l2 = some (.lst xs) ∧ xs.length < sizeLine ∧ (Same H (upd H3 l2 (.lst (xs ++ [y]))) ∧ (upd H3 l2 (.lst (xs ++ [y]))) l = some (.lst ((res mdl otl ks (i + 1)).map V.bl))) := by
        rintro b rfl
        exact ⟨l, _, _, rfl, rfl, e3, lz, keep _, last⟩
      refine ⟨_, rfl, .inl ⟨rfl, _, SqL.of e3⟩, _, rfl, _, _, rfl, rfl, _, rfl, in_tup (tup_same s3 qm) ⟨_, rfl, ?_⟩⟩
      cases h1 : hasI mdl i
      · obtain ⟨l2, xs, y, e1, e2, e4, e5, e6, e7⟩ := fin false (by simp [both, h1])
        exact ⟨l2, xs, y, e1, e2, e4, e5, e6, e7, _, rfl⟩
      · refine ⟨_, rfl, _, _, rfl, rfl, _, rfl, in_tup (tup_same s3 qo) ⟨_, rfl, ?_⟩⟩
        cases h2 : hasI otl i
        · obtain ⟨l2, xs, y, e1, e2, e4, e5, e6, e7⟩ := fin false (by simp [both, h1, h2])
          exact ⟨l2, xs, y, e1, e2, e4, e5, e6, e7, _, rfl⟩
        · obtain ⟨l2, xs, y, e1, e2, e4, e5, e6, e7⟩ := fin ki (by simp [both, h1, h2])
          exact ⟨_, rfl, _, rfl, k, _, _, _, rfl, rfl, lst_same s3 qk, atI_nat (map_at hki), l2, xs, y, e1, e2, e4, e5, e6, e7, _, rfl⟩
    · rintro σ H3 ⟨s3, e3, y5, rfl⟩
      refine ⟨_, rfl, l, _, rfl, .inl ⟨SqL.of e3, fun t ht => ?_⟩⟩
      have htH : H t = none := by
        cases e : H t with
        | none => rfl
        | some o =>
          rw [s3 _ _ e] at ht
          cases ht
      exact kq t _ (s3.trans (same_new ht)) htH upd_same
end
end Wq
set_option Elab.async false
set_option linter.all false
set_option maxRecDepth 100000
set_option maxHeartbeats 4000000
namespace Wq
open PySem PySem.Spec PyProof.Rows L2
/-- the arguments, as they stand -/
structure InpAt (K : PySem.W.Frag) (H : Hp) (fs : List Str) (mdl otl : List Int) (msl : List Bool) (n : Nat) (a md ot ms : Addr) : Prop where
  sf : SqT K H a (fs.map V.str)
  sm : SqT K H md (mdl.map V.int)
  so : SqT K H ot (otl.map V.int)
  ss : SqT K H ms (msl.map V.bl)
  lf : fs.length = n
  lm : msl.length = n
  n4 : n ≤ 4
theorem InpAt.same {K : PySem.W.Frag} {H H' : Hp} {fs : List Str} {mdl otl : List Int} {msl : List Bool} {n : Nat} {a md ot ms : Addr} (h : InpAt K H fs mdl otl msl n a md ot ms) (s : Same H H') : InpAt K H' fs mdl otl msl n a md ot ms :=
  ⟨tup_same s h.sf, tup_same s h.sm, tup_same s h.so, tup_same s h.ss, h.lf, h.lm, h.n4⟩
theorem dec_str (x y : Str) : decide (V.str x = V.str y) = decide (x = y) := by
  by_cases h : x = y
  · rw [h, decide_eq_true rfl, decide_eq_true rfl]
  · rw [decide_eq_false h, decide_eq_false fun z => h (V.str.inj z)]
section
variable {P : Program} {w : World} {K : PySem.W.Frag} {mg : Str → Option Value} {base : Heap}
/-! ## alone -/
abbrev sAlone : Stmt := top 2
def spAlone (K : PySem.W.Frag) : Sp := fun vs H Q _ => ∃ (fs : List Str) (mdl otl : List Int) (msl : List Bool) (n : Nat) (a md ot ms : Addr), vs = [.ref a, .ref md, .ref ot, .ref ms] ∧ InpAt K H fs mdl otl msl n a md ot ms ∧
  ∀ (t : Addr) H', Same H H' → H t = none → H' t = some (.tup ((res mdl otl (keptA fs msl) n).map V.bl)) → Q (.ref t) H'
theorem scAlone : FnScope ["fates", "made", "others", "memos", "kept", "fate", "memo"] ["fates", "made", "others", "memos"] (defScope sAlone) := ⟨rfl, rfl, rfl, by decide +kernel, rfl, by decide +kernel, by decide +kernel⟩
theorem none_of {H H' : Hp} (s : Same H H') {t : Addr} (h : H' t = none) : H t = none := by
  cases e : H t with
  | none => rfl
  | some o =>
    rw [s _ _ e] at h
    cases h
theorem ok_alone {f fA : Addr} {fd fdA : FuncData} (F : Fun K "alone" "alone" sAlone f fd) (B : Bn mg) (AF : Known P w K mg base CX0 1 "_memos_after" ["fates", "made", "others", "kept"] (spAfter K) fA fdA) : FnOk P w K mg base CX0 2 f fd ["fates", "made", "others", "memos"] (spAlone K) := by
  refine F.ok scAlone (fun vs H Q E h => ?_) (fun cdv A outer s H vs Q E hr h => ?_)
  · obtain ⟨fs, mdl, otl, msl, n, a, md, ot, ms, rfl, _⟩ := h
    rfl
  · obtain ⟨fs, mdl, otl, msl, n, a, md, ot, ms, rfl, I, k⟩ := h
    refine ⟨_, pss_cons (ps_setLc (i := 4) (own := [("fate", 5), ("memo", 6)]) (g := gTup K 2 (gCons (gName 5) (gCons (gName 6) gNil))) (tt := tYes) (te := tAndV (tVar 6) (tOp rEq (tVar 5) (tC (.str "goes")))) rfl scAlone.nd rfl rfl (sw_true rfl rfl rfl (by decide +kernel)) (RZ.pi_zipA (by rfl) B.zip (pa_cons (pv 0) (pa_cons (pv 3) pa_nil)))
        (blkOk_by (N := ["fates", "made", "others", "memos", "kept", "fate", "memo"]) (sc := defScope sAlone) (by decide +kernel)) (fun _ _ _ _ _ => pg_tup rfl (pgs_cons (pg_name (i := 5) scAlone.nd rfl (.inl rfl)) (pgs_cons (pg_name (i := 6) scAlone.nd rfl (.inl rfl)) pgs_nil))) (fun _ _ _ _ _ => pts_nil)
        (fun _ _ _ _ _ => pe_and (pv 6) (pe_one (pe_cmpR op_eq (pv 5) pe_str (nomark _)))))
      (pss_one (ps_ret (pe_call AF.ok hr rfl AF.mg AF.kp AF.bi .nil pass0 (pa_cons (pv 0) (pa_cons (pv 1) (pa_cons (pv 2) (pa_cons (pv 4) pa_nil))))))), ?_⟩
    refine ⟨_, rfl, _, rfl, a, ms, fs.map V.str, msl.map V.bl, rfl, .inr ⟨I.sf, I.ss, fun D hD => ?_⟩⟩
    refine lc_it (walk_zipT (n := n) (by rw [List.length_map]; exact I.lf) (by rw [List.length_map]; exact I.lm)) (fun i H' => Same H H' ∧ H' D = some (.lst (((keptA fs msl).take i).map V.bl))) ⟨same_new hD, upd_same⟩ (fun i H' _ q => ⟨(I.same q.1).sf, (I.same q.1).ss⟩) ?_ ?_
    · rintro i v H1 H2 hi ⟨sm, eD⟩ ⟨T, x, y, rfl, hT, rfl, hx, hy⟩
      obtain ⟨fi, hf, rfl⟩ := at_map hx
      obtain ⟨mi, hm, rfl⟩ := at_map hy
      have sT := same_new (o := HO.tup [V.str fi, .bl mi]) hT
      have last : ∀ b, b = goes fi mi → ∃ acc, (upd H1 T (.tup [V.str fi, .bl mi])) D = some (.lst acc) ∧ acc.length < sizeLine ∧ Same H (upd (upd H1 T (.tup [V.str fi, .bl mi])) D (.lst (acc ++ [.bl b]))) ∧ (upd (upd H1 T (.tup [V.str fi, .bl mi])) D (.lst (acc ++ [.bl b]))) D = some (.lst (((keptA fs msl).take (i + 1)).map V.bl)) := by
        rintro b rfl
        refine ⟨_, sT _ _ eD, ?_, fun c u e => ?_, ?_⟩
        · rw [List.length_map, List.length_take, sizeLine_eq]
          have := I.n4
          omega
        · rw [upd_ne (ne_of_none e hD)]
          exact sT _ _ (sm _ _ e)
        · rw [upd_same, List.take_add_one, keptA_at hf hm, List.map_append]
          rfl
      refine ⟨T, [.str fi, .bl mi], rfl, SqT.of upd_same, rfl, _, _, rfl, _, _, rfl, rfl, rfl, _, rfl, mi, rfl, ?_⟩
      cases mi
      · exact last false rfl
      · refine ⟨_, rfl, rfl, ?_⟩
        rw [dec_str]
        exact last _ (by simp [goes])
    · rintro H1 ⟨sm, eD⟩
      rw [List.take_of_length_le (by rw [keptA_len I.lf I.lm]; exact Nat.le_refl _)] at eD
      have J := I.same sm
      refine ⟨_, rfl, _, rfl, _, rfl, _, rfl, n, a, md, ot, D, fs.map V.str, mdl, otl, keptA fs msl, rfl, J.sf, J.sm, J.so, SqL.of eD, by rw [List.length_map]; exact I.lf, keptA_len I.lf I.lm, I.n4, fun t H' s' ht et => ?_⟩
      exact k t H' (sm.trans s') (none_of sm ht) et
/-! ## together -/
abbrev sTog : Stmt := top 3
def spTog (K : PySem.W.Frag) : Sp := fun vs H Q _ => ∃ (fs : List Str) (mdl otl : List Int) (msl ssl : List Bool) (n : Nat) (a md ot ms sm : Addr), vs = [.ref a, .ref md, .ref ot, .ref ms, .ref sm] ∧ InpAt K H fs mdl otl msl n a md ot ms ∧ SqT K H sm (ssl.map V.bl) ∧ ssl.length = n ∧
  ∀ (t : Addr) H', Same H H' → H t = none → H' t = some (.tup ((res mdl otl (keptT fs msl ssl) n).map V.bl)) → Q (.ref t) H'
theorem scTog : FnScope ["fates", "made", "others", "memos", "same", "kept", "fate", "memo", "one"] ["fates", "made", "others", "memos", "same"] (defScope sTog) := ⟨rfl, rfl, rfl, by decide +kernel, rfl, by decide +kernel, by decide +kernel⟩
theorem ok_tog {f fA : Addr} {fd fdA : FuncData} (F : Fun K "together" "together" sTog f fd) (B : Bn mg) (AF : Known P w K mg base CX0 1 "_memos_after" ["fates", "made", "others", "kept"] (spAfter K) fA fdA) : FnOk P w K mg base CX0 2 f fd ["fates", "made", "others", "memos", "same"] (spTog K) := by
  refine F.ok scTog (fun vs H Q E h => ?_) (fun cdv A outer s H vs Q E hr h => ?_)
  · obtain ⟨fs, mdl, otl, msl, ssl, n, a, md, ot, ms, sm, rfl, _⟩ := h
    rfl
  · obtain ⟨fs, mdl, otl, msl, ssl, n, a, md, ot, ms, sa, rfl, I, qs, ls, k⟩ := h
    refine ⟨_, pss_cons (ps_setLc (i := 5) (own := [("fate", 6), ("memo", 7), ("one", 8)]) (g := gTup K 3 (gCons (gName 6) (gCons (gName 7) (gCons (gName 8) gNil)))) (tt := tYes) (te := tOrV (tVar 8) (tAndV (tVar 7) (tOp rEq (tVar 6) (tC (.str "goes"))))) rfl scTog.nd rfl rfl (sw_true rfl rfl rfl (by decide +kernel)) (pi_zip3T (by rfl) B.zip (pa_cons (pv 0) (pa_cons (pv 3) (pa_cons (pv 4) pa_nil))))
        (blkOk_by (N := ["fates", "made", "others", "memos", "same", "kept", "fate", "memo", "one"]) (sc := defScope sTog) (by decide +kernel)) (fun _ _ _ _ _ => pg_tup rfl (pgs_cons (pg_name (i := 6) scTog.nd rfl (.inl rfl)) (pgs_cons (pg_name (i := 7) scTog.nd rfl (.inl rfl)) (pgs_cons (pg_name (i := 8) scTog.nd rfl (.inl rfl)) pgs_nil)))) (fun _ _ _ _ _ => pts_nil)
        (fun _ _ _ _ _ => pe_or (pv 8) (pe_one (pe_and (pv 7) (pe_one (pe_cmpR op_eq (pv 6) pe_str (nomark _)))))))
      (pss_one (ps_ret (pe_call AF.ok hr rfl AF.mg AF.kp AF.bi .nil pass0 (pa_cons (pv 0) (pa_cons (pv 1) (pa_cons (pv 2) (pa_cons (pv 5) pa_nil))))))), ?_⟩
    refine ⟨_, rfl, _, rfl, _, rfl, a, ms, sa, fs.map V.str, msl.map V.bl, ssl.map V.bl, rfl, I.sf, I.ss, qs, fun D hD => ?_⟩
    refine lc_it (walk_zip3T (n := n) (by rw [List.length_map]; exact I.lf) (by rw [List.length_map]; exact I.lm) (by rw [List.length_map]; exact ls)) (fun i H' => Same H H' ∧ H' D = some (.lst (((keptT fs msl ssl).take i).map V.bl))) ⟨same_new hD, upd_same⟩ (fun i H' _ q => ⟨(I.same q.1).sf, (I.same q.1).ss, tup_same q.1 qs⟩) ?_ ?_
    · rintro i v H1 H2 hi ⟨sm, eD⟩ ⟨T, x, y, z, rfl, hT, rfl, hx, hy, hz⟩
      obtain ⟨fi, hf, rfl⟩ := at_map hx
      obtain ⟨mi, hm, rfl⟩ := at_map hy
      obtain ⟨si, hs, rfl⟩ := at_map hz
      have sT := same_new (o := HO.tup [V.str fi, .bl mi, .bl si]) hT
      have last : ∀ b, b = (si || goes fi mi) → ∃ acc, (upd H1 T (.tup [V.str fi, .bl mi, .bl si])) D = some (.lst acc) ∧ acc.length < sizeLine ∧ Same H (upd (upd H1 T (.tup [V.str fi, .bl mi, .bl si])) D (.lst (acc ++ [.bl b]))) ∧ (upd (upd H1 T (.tup [V.str fi, .bl mi, .bl si])) D (.lst (acc ++ [.bl b]))) D = some (.lst (((keptT fs msl ssl).take (i + 1)).map V.bl)) := by
        rintro b rfl
        refine ⟨_, sT _ _ eD, ?_, fun c u e => ?_, ?_⟩
        · rw [List.length_map, List.length_take, sizeLine_eq]
          have := I.n4
          omega
        · rw [upd_ne (ne_of_none e hD)]
          exact sT _ _ (sm _ _ e)
        · rw [upd_same, List.take_add_one, keptT_at hf hm hs, List.map_append]
          rfl
      refine ⟨T, [.str fi, .bl mi, .bl si], rfl, SqT.of upd_same, rfl, _, _, rfl, _, _, rfl, _, _, rfl, rfl, rfl, _, rfl, si, rfl, ?_⟩
      cases si
      · refine ⟨_, rfl, mi, rfl, ?_⟩
        cases mi
        · exact last false rfl
        · refine ⟨_, rfl, rfl, ?_⟩
          rw [dec_str]
          exact last _ (by simp [goes])
      · exact last true rfl
    · rintro H1 ⟨sm, eD⟩
      rw [List.take_of_length_le (by rw [keptT_len I.lf I.lm ls]; exact Nat.le_refl _)] at eD
      have J := I.same sm
      refine ⟨_, rfl, _, rfl, _, rfl, _, rfl, n, a, md, ot, D, fs.map V.str, mdl, otl, keptT fs msl ssl, rfl, J.sf, J.sm, J.so, SqL.of eD, by rw [List.length_map]; exact I.lf, keptT_len I.lf I.lm ls, I.n4, fun t H' s' ht et => ?_⟩
      exact k t H' (sm.trans s') (none_of sm ht) et
end
end Wq
set_option Elab.async false
set_option linter.all false
set_option maxRecDepth 100000
set_option maxHeartbeats 4000000
namespace Wq
open PySem PySem.Spec PyProof.Rows L2
/-! ## a call by keywords alone -/
section
variable {X : Cx} {CX : CXT} {k : Nat} {f : Addr} {fd : FuncData} {ps ks : List Str} {sp : Sp} {E : XK} {x : Str} {p pos : Pos} {kws : List Keyword} {tk : TA} {g : List Value → List Value → List Value} {gV : List V → List V → List V}
theorem pe_callN0 (F : FnOk X.prog X.w X.K X.mg X.base CX k f fd ps sp) (hr : Room k X.A) (hg : Gl X x) (hm : X.mg x = some (.ref f)) (hk : PySem.W.keepIn X.K (.ref f) = true) (hb : KBn X.K fd ps 0 ks g gV) (hx : Passes CX X E) (hkw : PK X kws tk)
    (hall : (backToKw pos (keywordEach kws X.env)).all (·.1.isSome) = true := by rfl) (hks : (backToKw pos (keywordEach kws X.env)).filterMap (·.1) = ks := by rfl) (hdb : (x == ("__debug__" : Str)) = false := by decide)
    (hpl : ((backTo pos (starEach [] X.env)).any (·.1) || (backToKw pos (keywordEach kws X.env)).any (·.1.isNone)) = false := by rfl) :
    PE X (.Call (.Name x p) [] kws pos) (tCallN 0 ks.length sp gV E tNil tk) := by
  refine ⟨fun pins s σ H Q I h => ?_⟩
  refine wpAny_Call_Name_kw (ld_glob I hg hm ?_ hdb)
  refine PySem.W.callWith_KW0 (h₀ := X.base) I.ok.mod.kin hk hall ?_ hpl
  refine thn (hkw.run pos pins s σ H _ I h) fun ws s2 ⟨zs, H2, I2, rz, l1, l2, q2⟩ => ⟨I2.kIn, ?_⟩
  rw [hks]
  exact run_fnN (us := []) (vs := []) F hr hb hx I2 .nil rz rfl l2 q2
end
/-! ## bools as data -/
theorem bools_lay : ∀ bs : List Bool, PyData.canLayAll0 (bs.map PyData.bool) = true ∧ PyData.depthAll (bs.map PyData.bool) ≤ 1
  | [] => ⟨rfl, by simp [PyData.depthAll]⟩
  | b :: r => by
    obtain ⟨h1, h2⟩ := bools_lay r
    refine ⟨?_, ?_⟩
    · show ((PyData.bool b).canLay0 && PyData.canLayAll0 (r.map PyData.bool)) = true
      rw [h1]
      rfl
    · simp only [List.map_cons, PyData.depthAll, PyData.depth]
      omega
theorem bools_sh (bs : List Bool) : SeqAt.shaped (.tuple (bs.map PyData.bool)) = true := by
  obtain ⟨h1, h2⟩ := bools_lay bs
  simp only [SeqAt.shaped, Bool.and_eq_true, decide_eq_true_eq]
  refine ⟨h1, ?_⟩
  show PyData.depthAll (bs.map PyData.bool) + 1 ≤ 64
  omega
theorem bools_eqv (bs : List Bool) : PyData.eqv (.tuple (bs.map PyData.bool)) (.tuple (bs.map PyData.bool)) = true :=
  SeqAt.eqv_refl _ (SeqAt.canLay_of_shaped (bools_sh bs))
theorem bools_dp {K : PySem.W.Frag} {H : Hp} : ∀ bs : List Bool, DpAll K H (bs.map V.bl) (bs.map PyData.bool)
  | [] => .nil
  | b :: r => .cons (.bl b) (bools_dp r)
/-- != of two tuples of the same bools -/
theorem ne_same {K : PySem.W.Frag} {H : Hp} {a b : Addr} {O : List Bool} {Q : VK} (ea : H a = some (.tup (O.map V.bl))) (eb : H b = some (.tup (O.map V.bl))) (q : Q (.bl false) H) : rNeD K (.ref a) (.ref b) H Q := by
  refine ⟨.tuple (O.map PyData.bool), .tuple (O.map PyData.bool), .tup (SqT.of ea) (bools_dp O), .tup (SqT.of eb) (bools_dp O), bools_sh O, bools_sh O, ?_⟩
  rw [bools_eqv]
  exact q
theorem boot_isi : bootBuiltins "isinstance" = some (.builtin "isinstance") := by decide +kernel
theorem boot_ttuple : bootBuiltins "tuple" = some (.type "tuple") := by decide +kernel
theorem boot_tbool : bootBuiltins "bool" = some (.type "bool") := by decide +kernel
section
variable {P : Program} {w : World} {K : PySem.W.Frag} {mg : Str → Option Value} {base : Heap}
/-! ## flags told -/
abbrev sIsf : Stmt := top 11
def spIsf : Sp := fun vs H Q _ => ∃ (t : Addr) (O : List Bool) (n : Nat), vs = [.ref t, .int n] ∧ H t = some (.tup (O.map V.bl)) ∧ O.length = n ∧ n ≤ 4 ∧ ∀ H', Same H H' → Q (.bl true) H'
theorem scIsf : FnScope ["_law_told", "_law_size", "_law_flag"] ["_law_told", "_law_size"] (defScope sIsf) := ⟨rfl, rfl, rfl, by decide +kernel, rfl, by decide +kernel, by decide +kernel⟩
theorem ok_isf {f : Addr} {fd : FuncData} (F : Fun K "_law_is_flags" "_law_is_flags" sIsf f fd) (B : Bn mg) : FnOk P w K mg base CX0 1 f fd ["_law_told", "_law_size"] spIsf := by
  refine F.ok scIsf (fun vs H Q E h => ?_) (fun cdv A outer s H vs Q E hr h => ?_)
  · obtain ⟨t, O, n, rfl, _⟩ := h
    rfl
  · obtain ⟨t, O, n, rfl, ea, lO, n4, k⟩ := h
    refine ⟨_, pss_cons (ps_if (PW.pt (pw_or (pt_not (pt_val (pe_callB call_isi (by rfl) B.isinstance boot_isi (pa_cons (pv 0) (pa_cons (pe_bltn (v := .ty "tuple") (by rfl) B.tuple boot_ttuple rfl) pa_nil)))))
          (pw_or1 (pt_cmpR op_ne (pe_callB call_len_seq (by rfl) B.len PySem.boot_len (pa_cons (pv 0) pa_nil)) (pv 1) (nomark _)))))
        (pss_one (ps_ret pe_bl)) pss_nil)
      (pss_one (ps_ret (pe_cmpR (op_eqD hr.units) (pe_lc (own := [("_law_flag", 2)]) (g := gName 2) (te := tVar 2) (tt := tNot (tB (tCB (rIsi K) (tCons (tVar 2) (tCons (tC (.ty "bool")) tNil))))) rfl scIsf.nd (pi_tup (pv 0))
          (blkOk_by (N := ["_law_told", "_law_size", "_law_flag"]) (sc := defScope sIsf) (by decide +kernel)) (fun _ _ _ _ _ => pg_name (i := 2) scIsf.nd rfl (Or.inl rfl))
          (fun _ _ _ _ _ => pts_one (pt_not (pt_val (pe_callB call_isi (by rfl) B.isinstance boot_isi (pa_cons (pv 2) (pa_cons (pe_bltn (v := .ty "bool") (by rfl) B.bool boot_tbool rfl) pa_nil))))))
          (fun _ _ _ _ _ => pv 2)) (pe_lst pa_nil) (nomark _)))), ?_⟩
    refine ⟨_, rfl, .ref t, .ty "tuple", .type "tuple", .type "tuple", true, rfl, .ty _, .base (.tup ea), kit_ty (by decide +kernel), _, rfl, ?_⟩
    refine ⟨_, rfl, t, _, rfl, .inr (SqT.of ea), _, rfl, rfl, _, rfl, ?_⟩
    rw [show (!decide (V.int ((O.map V.bl).length : Nat) = V.int (n : Nat))) = false by rw [List.length_map, lO, decide_eq_true rfl]; rfl]
    refine ⟨_, rfl, t, rfl, ⟨_, SqT.of ea⟩, fun D hD => ?_⟩
    refine lc_it (walk_tup (xs := O.map V.bl)) (fun i H' => Same H H' ∧ H' D = some (.lst [])) ⟨same_new hD, upd_same⟩ (fun i H' _ q => SqT.of (q.1 _ _ ea)) ?_ ?_
    · rintro i v H1 H2 hi ⟨sm, eD⟩ ⟨rfl, hv⟩
      obtain ⟨c, _, rfl⟩ := at_map hv
      refine ⟨rfl, _, rfl, .bl c, .ty "bool", .type "bool", .type "bool", true, rfl, .ty _, .base (.bl c), kit_ty (by decide +kernel), _, rfl, ?_⟩
      exact ⟨sm, eD⟩
    · rintro H1 ⟨sm, eD⟩
      refine ⟨Nat.zero_le _, fun q hq => ?_⟩
      have s2 := same_new (o := HO.lst []) hq
      refine ⟨.list [], .list [], .lst (SqL.of (s2 _ _ eD)) .nil, .lst (SqL.of upd_same) .nil, rfl, rfl, ?_⟩
      rw [show PyData.eqv (.list []) (.list []) = true by decide +kernel]
      exact k _ (sm.trans s2)
/-! ## due -/
abbrev sDue : Stmt := top 10
def spDue (K : PySem.W.Frag) : Sp := fun vs H Q _ => ∃ (fs : List Str) (mdl otl : List Int) (msl ks : List Bool) (n : Nat) (a md ot ms : Addr) (sv : V), vs = [.ref a, .ref md, .ref ot, .ref ms, sv] ∧ InpAt K H fs mdl otl msl n a md ot ms ∧
  ((sv = .non ∧ ks = keptA fs msl) ∨ ∃ (sa : Addr) (ssl : List Bool), sv = .ref sa ∧ SqT K H sa (ssl.map V.bl) ∧ ssl.length = n ∧ ks = keptT fs msl ssl) ∧
  ∀ (t : Addr) H', Same H H' → H t = none → H' t = some (.tup ((res mdl otl ks n).map V.bl)) → Q (.ref t) H'
theorem scDue : FnScope ["_law_own_fates", "_law_own_made", "_law_own_others", "_law_own_memos", "_law_same", "_law_due_here", "_law_at", "_law_fate", "_law_both"] ["_law_own_fates", "_law_own_made", "_law_own_others", "_law_own_memos", "_law_same"] (defScope sDue) := ⟨rfl, rfl, rfl, by decide +kernel, rfl, by decide +kernel, by decide +kernel⟩
theorem dec_non : decide (V.non = V.non) = true := decide_eq_true rfl
theorem dec_ref {a : Addr} : decide (V.ref a = V.non) = false := decide_eq_false fun z => by cases z
theorem ok_due {f : Addr} {fd : FuncData} (F : Fun K "_law_due" "_law_due" sDue f fd) (B : Bn mg) : FnOk P w K mg base CX0 1 f fd ["_law_own_fates", "_law_own_made", "_law_own_others", "_law_own_memos", "_law_same"] (spDue K) := by
  refine F.ok scDue (fun vs H Q E h => ?_) (fun cdv A outer s H vs Q E hr h => ?_)
  · obtain ⟨fs, mdl, otl, msl, ks, n, a, md, ot, ms, sv, rfl, _⟩ := h
    rfl
  · obtain ⟨fs, mdl, otl, msl, ks, n, a, md, ot, ms, sv, rfl, I, hS, k⟩ := h
    obtain ⟨tC, hC, qC⟩ : ∃ t, PSs (cxOf CX0 P w K mg base ["_law_own_fates", "_law_own_made", "_law_own_others", "_law_own_memos", "_law_same", "_law_due_here", "_law_at", "_law_fate", "_law_both"] "_law_due" (defScope sDue) f cdv A outer s H E).nox ((loopBody ((defBody sDue).getD 1 (.Pass ⟨0, 0, 0, 0⟩))).drop 1) t ∧
        ∀ (D : Ends) (l : Addr) (i : Nat) (fi : Str) (mi ki bo : Bool) (xs : List V) (H2 : Hp), SqT K H2 ms (msl.map V.bl) → msl[i]? = some mi → H2 l = some (.lst xs) → xs.length < sizeLine →
          ((sv = .non ∧ ki = goes fi mi) ∨ ∃ (sa : Addr) (ssl : List Bool) (si : Bool), sv = .ref sa ∧ SqT K H2 sa (ssl.map V.bl) ∧ ssl[i]? = some si ∧ ki = (si || goes fi mi)) →
          D.nx [some (.ref a), some (.ref md), some (.ref ot), some (.ref ms), some sv, some (.ref l), some (.int (i : Nat)), some (.str fi), some (.bl bo)] (upd H2 l (.lst (xs ++ [.bl (bo && ki)]))) → t D [some (.ref a), some (.ref md), some (.ref ot), some (.ref ms), some sv, some (.ref l), some (.int (i : Nat)), some (.str fi), some (.bl bo)] H2 := by
      refine ⟨_, (pss_one (ps_if (pt_cmpR op_isN (pv 4) pe_non (nomark _))
          (pss_one (ps_expr (pe_bm PySem.F.plainAttrs_list PySem.F.slot_list_append PySem.F.type_list_append mt_append (pv 5) (pa_cons (pe_and (pv 8) (pe_and (pe_ix ix_tup (pv 3) (pv 6) (fun _ _ => rfl)) (pe_one (pe_cmpR op_eq (pv 7) pe_str (nomark _))))) pa_nil))))
          (pss_one (ps_expr (pe_bm PySem.F.plainAttrs_list PySem.F.slot_list_append PySem.F.type_list_append mt_append (pv 5) (pa_cons (pe_and (pv 8) (pe_one (pe_or (pe_ix ix_tup (pv 4) (pv 6) (fun _ _ => rfl)) (pe_one (pe_and (pe_ix ix_tup (pv 3) (pv 6) (fun _ _ => rfl)) (pe_one (pe_cmpR op_eq (pv 7) pe_str (nomark _)))))))) pa_nil)))))), ?_⟩
      intro D l i fi mi ki bo xs H2 qm hm el lz hk q
      refine ⟨_, rfl, rfl, _, rfl, ?_⟩
      rcases hk with ⟨rfl, rfl⟩ | ⟨sa, ssl, si, rfl, qs, hs, rfl⟩
      · rw [dec_non]
        refine ⟨_, rfl, .inl ⟨rfl, _, SqL.of el⟩, _, rfl, bo, rfl, ?_⟩
        cases bo
        · exact ⟨l, _, _, rfl, rfl, el, lz, q⟩
        · refine ⟨_, rfl, _, rfl, ms, _, _, _, rfl, rfl, qm, atI_nat (map_at hm), mi, rfl, ?_⟩
          cases mi
          · exact ⟨l, _, _, rfl, rfl, el, lz, q⟩
          · refine ⟨_, rfl, rfl, ?_⟩
            rw [dec_str]
            have e : (true && goes fi true) = decide (fi = "goes") := by simp [goes]
            rw [e] at q
            exact ⟨l, _, _, rfl, rfl, el, lz, q⟩
      · rw [dec_ref]
        refine ⟨_, rfl, .inl ⟨rfl, _, SqL.of el⟩, _, rfl, bo, rfl, ?_⟩
        cases bo
        · exact ⟨l, _, _, rfl, rfl, el, lz, q⟩
        · refine ⟨_, rfl, _, rfl, sa, _, _, _, rfl, rfl, qs, atI_nat (map_at hs), si, rfl, ?_⟩
          cases si
          · refine ⟨_, rfl, _, rfl, ms, _, _, _, rfl, rfl, qm, atI_nat (map_at hm), mi, rfl, ?_⟩
            cases mi
            · exact ⟨l, _, _, rfl, rfl, el, lz, q⟩
            · refine ⟨_, rfl, rfl, ?_⟩
              rw [dec_str]
              have e : (true && (false || goes fi true)) = decide (fi = "goes") := by simp [goes]
              rw [e] at q
              exact ⟨l, _, _, rfl, rfl, el, lz, q⟩
          · exact ⟨l, _, _, rfl, rfl, el, lz, q⟩
    refine ⟨_, pss_cons (ps_set (i := 5) scDue.nd rfl (.inl rfl) (pe_lst pa_nil))
      (pss_cons (ps_for PassesOwn.never rfl (pi_enumT (by rfl) B.enumerate (pa_cons (pv 0) pa_nil))
          (pg_tup rfl (pgs_cons (pg_name (i := 6) scDue.nd rfl (.inl rfl)) (pgs_cons (pg_name (i := 7) scDue.nd rfl (.inl rfl)) pgs_nil)))
        (pss_cons (ps_set (i := 8) scDue.nd rfl (.inl rfl) (pe_and (pe_cmpR op_in_seq (pe_op op_add (pv 6) pe_int) (pv 1) (by rfl)) (pe_one (pe_cmpR op_in_seq (pe_op op_add (pv 6) pe_int) (pv 2) (by rfl)))))
        hC))
      (pss_one (ps_ret (pe_callTy call_tuple_of (by rfl) B.tuple PyProof.Rows.boot_tuple (pa_cons (pv 5) pa_nil))))), ?_⟩
    refine ⟨Nat.zero_le _, fun l hl => ?_⟩
    have s0 : Same H (upd H l (.lst [])) := same_new hl
    refine ⟨_, rfl, a, fs.map V.str, rfl, (I.same s0).sf, for_enumT (K := K) (xs := fs.map V.str)
      (fun i σ H3 => ∃ y6 y7 y8, σ = [some (.ref a), some (.ref md), some (.ref ot), some (.ref ms), some sv, some (.ref l), y6, y7, y8] ∧ Same H H3 ∧ H3 l = some (.lst ((res mdl otl ks i).map V.bl)))
      ⟨none, none, none, rfl, s0, upd_same⟩ (fun i σ H3 ⟨_, _, _, _, s3, _⟩ => (I.same s3).sf) ?_ ?_⟩
    · rintro i x T σ H3 hx ⟨y6, y7, y8, rfl, s3, e3⟩ hT
      have hi : i < n := by
        have := (List.getElem?_eq_some_iff.mp hx).1
        rw [List.length_map, I.lf] at this
        exact this
      obtain ⟨fi, hf, rfl⟩ := at_map hx
      obtain ⟨mi, hm⟩ : ∃ b, msl[i]? = some b := ⟨_, List.getElem?_eq_getElem (by rw [I.lm]; exact hi)⟩
      have s4 : Same H (upd H3 T (.tup [.int (i : Nat), .str fi])) := s3.trans (same_new hT)
      have e4 : (upd H3 T (.tup [.int (i : Nat), .str fi])) l = some (.lst ((res mdl otl ks i).map V.bl)) := by
        rw [upd_ne (ne_of_none e3 hT)]
        exact e3
      have lz : ((res mdl otl ks i).map V.bl).length < sizeLine := by
        rw [List.length_map, res_len, sizeLine_eq]
        have := I.n4
        omega
      have J := I.same s4
      refine ⟨T, [.int (i : Nat), .str fi], rfl, SqT.of upd_same, rfl, _, _, rfl, _, _, rfl, rfl, ?_⟩
      generalize upd H3 T (.tup [.int (i : Nat), .str fi]) = H4 at s4 e4 J
      obtain ⟨ki, hk, ek⟩ : ∃ ki, ks[i]? = some ki ∧ ((sv = .non ∧ ki = goes fi mi) ∨ ∃ (sa : Addr) (ssl : List Bool) (si : Bool), sv = .ref sa ∧ SqT K H4 sa (ssl.map V.bl) ∧ ssl[i]? = some si ∧ ki = (si || goes fi mi)) := by
        rcases hS with ⟨rfl, rfl⟩ | ⟨sa, ssl, rfl, q, ls, rfl⟩
        · exact ⟨_, keptA_at hf hm, .inl ⟨rfl, rfl⟩⟩
        · obtain ⟨si, hs⟩ : ∃ b, ssl[i]? = some b := ⟨_, List.getElem?_eq_getElem (by rw [ls]; exact hi)⟩
          exact ⟨_, keptT_at hf hm hs, .inr ⟨sa, ssl, si, rfl, tup_same s4 q, hs, rfl⟩⟩
      have fin : ∀ (D : Ends) (bo : Bool), bo = both mdl otl i → (∀ σ' H', (∃ y6 y7 y8, σ' = [some (.ref a), some (.ref md), some (.ref ot), some (.ref ms), some sv, some (.ref l), y6, y7, y8] ∧ Same H H' ∧ H' l = some (.lst ((res mdl otl ks (i + 1)).map V.bl))) → D.nx σ' H') → tC D [some (.ref a), some (.ref md), some (.ref ot), some (.ref ms), some sv, some (.ref l), some (.int (i : Nat)), some (.str fi), some (.bl bo)] H4 := by
        rintro D bo rfl hn
        refine qC D l i fi mi ki _ _ H4 J.ss hm e4 lz ek (hn _ _ ⟨_, _, _, rfl, fun c u e => ?_, ?_⟩)
        · rw [upd_ne (ne_of_none e hl)]
          exact s4 _ _ e
        · rw [upd_same, res_succ, List.map_append, hk]
          rfl
      refine ⟨_, rfl, _, _, rfl, rfl, _, rfl, in_tup J.sm ⟨hasI mdl i, rfl, ?_⟩⟩
      cases h1 : hasI mdl i
      · exact fin _ false (by simp [both, h1]) fun _ _ z => z
      · refine ⟨_, rfl, _, _, rfl, rfl, _, rfl, in_tup J.so ?_⟩
        exact fin _ _ (by simp [both, h1]) fun _ _ z => z
    · rintro σ H3 ⟨y6, y7, y8, rfl, s3, e3⟩
      refine ⟨_, rfl, l, _, rfl, .inl ⟨SqL.of e3, fun t ht => ?_⟩⟩
      rw [List.length_map, I.lf] at *
      exact k t _ (s3.trans (same_new ht)) (none_of s3 ht) upd_same
end
end Wq
set_option Elab.async false
set_option linter.all false
set_option maxRecDepth 100000
set_option maxHeartbeats 4000000
namespace Wq
open PySem PySem.Spec PyProof.Rows L2
theorem len14 {σ : L2.St} (h : σ.length = 14) : ∃ y0 y1 y2 y3 y4 y5 y6 y7 y8 y9 y10 y11 y12 y13, σ = [y0, y1, y2, y3, y4, y5, y6, y7, y8, y9, y10, y11, y12, y13] :=
  match σ, h with
  | [y0, y1, y2, y3, y4, y5, y6, y7, y8, y9, y10, y11, y12, y13], _ => ⟨y0, y1, y2, y3, y4, y5, y6, y7, y8, y9, y10, y11, y12, y13, rfl⟩
theorem in_tupI {K : PySem.W.Frag} {H : Hp} {a : Addr} {md : List Int} {t : Int} {Q : VK} (h : SqT K H a (md.map V.int)) (q : ∀ b, Q (.bl b) H) : rIn K false (.int t) (.ref a) H Q :=
  ⟨a, _, rfl, .inr h, rfl, flat_ints md, q _⟩
section
variable {P : Program} {w : World} {K : PySem.W.Frag} {mg : Str → Option Value} {base : Heap}
abbrev sLaw : Stmt := top 12
abbrev body1 : List Stmt := loopBody ((defBody sLaw).getD 0 (.Pass ⟨0, 0, 0, 0⟩))
abbrev body2 : List Stmt := loopBody (body1.getD 1 (.Pass ⟨0, 0, 0, 0⟩))
abbrev body3 : List Stmt := loopBody (body2.getD 4 (.Pass ⟨0, 0, 0, 0⟩))
theorem scLaw : FnScope ["_law_script", "_law_place", "_law_source_here", "_law_turn", "_law_size", "_law_own_made", "_law_own_others", "_law_own_memos", "_law_same", "_law_own_fates", "_law_travel", "_law_some", "_law_one", "_law_both"] ["_law_script"] (defScope sLaw) := ⟨rfl, rfl, rfl, by decide +kernel, rfl, by decide +kernel, by decide +kernel⟩
abbrev cxLaw (P : Program) (w : World) (K : PySem.W.Frag) (mg : Str → Option Value) (base : Heap) (f : Addr) (cdv : Value) (A : Around) (outer : List Env) (s : Shared) (H : Hp) (E : XK) : Cx :=
  (cxOf CX0 P w K mg base ["_law_script", "_law_place", "_law_source_here", "_law_turn", "_law_size", "_law_own_made", "_law_own_others", "_law_own_memos", "_law_same", "_law_own_fates", "_law_travel", "_law_some", "_law_one", "_law_both"] "law" (defScope sLaw) f cdv A outer s H E).nox
/-- the rest of a turn: the program asked, the law's own reckoning -/
theorem law_rest {f fA fT fI fU : Addr} {fdA fdT fdI fdU : FuncData} {gk : List Value → List Value → List Value} {cdv : Value} {A : Around} {outer : List Env} {s : Shared} {H0 : Hp} {E : XK} (B : Bn mg)
    (hr : Room 2 (A.deeper (envOfC "law" (defScope sLaw) s.heap.objs.size f cdv)))
    (AL : Known P w K mg base CX0 2 "alone" ["fates", "made", "others", "memos"] (spAlone K) fA fdA) (bk : KBn K fdA ["fates", "made", "others", "memos"] 0 ["memos", "others", "made", "fates"] gk (fun vs zs => zs.reverse))
    (TG : Known P w K mg base CX0 2 "together" ["fates", "made", "others", "memos", "same"] (spTog K) fT fdT)
    (IF : Known P w K mg base CX0 1 "_law_is_flags" ["_law_told", "_law_size"] spIsf fI fdI)
    (DU : Known P w K mg base CX0 1 "_law_due" ["_law_own_fates", "_law_own_made", "_law_own_others", "_law_own_memos", "_law_same"] (spDue K) fU fdU) :
    ∃ t, PSs (cxLaw P w K mg base f cdv A outer s H0 E) (body2.drop 6) t ∧
      ∀ (D : Ends) (n : Nat) (a md ot ms sa : Addr) (fs : List Str) (mdl otl : List Int) (msl ssl : List Bool) (H : Hp) (y0 y1 y2 y3 y10 y11 y12 y13 : Option V), InpAt K H fs mdl otl msl n a md ot ms → SqT K H sa (ssl.map V.bl) → ssl.length = n →
        (∀ σ' H', σ'.length = 14 → σ'[0]? = some y0 → σ'[2]? = some y2 → Same H H' → D.nx σ' H') →
        t D [y0, y1, y2, y3, some (.int n), some (.ref md), some (.ref ot), some (.ref ms), some (.ref sa), some (.ref a), y10, y11, y12, y13] H := by
  have hu : (A.deeper (envOfC "law" (defScope sLaw) s.heap.objs.size f cdv)).units + 64 < cLine := hr.units
  have hr1 := hr.mono (j := 1) (by decide)
  refine ⟨_, pss_cons (ps_par (i := 12) (j := 13) (by rfl) scLaw.nd rfl rfl (by decide) rfl rfl (pa_cons (pe_call AL.ok hr rfl AL.mg AL.kp AL.bi .nil pass0 (pa_cons (pv 9) (pa_cons (pv 5) (pa_cons (pv 6) (pa_cons (pv 7) pa_nil)))))
        (pa_cons (pe_call TG.ok hr rfl TG.mg TG.kp TG.bi .nil pass0 (pa_cons (pv 9) (pa_cons (pv 5) (pa_cons (pv 6) (pa_cons (pv 7) (pa_cons (pv 8) pa_nil)))))) pa_nil)) (by rfl))
    (pss_cons (ps_if (PW.pt (pw_or (pt_not (pt_val (pe_call IF.ok hr1 rfl IF.mg IF.kp IF.bi .nil pass0 (pa_cons (pv 12) (pa_cons (pv 4) pa_nil)))))
        (pw_or1 (pt_not (pt_val (pe_call IF.ok hr1 rfl IF.mg IF.kp IF.bi .nil pass0 (pa_cons (pv 13) (pa_cons (pv 4) pa_nil))))))))
      (pss_one (ps_ret pe_bl)) pss_nil)
    (pss_cons (ps_if (pt_cmpR (op_neD hu) (pv 12) (pe_call DU.ok hr1 rfl DU.mg DU.kp DU.bi .nil pass0 (pa_cons (pv 9) (pa_cons (pv 5) (pa_cons (pv 6) (pa_cons (pv 7) (pa_cons pe_non pa_nil)))))) (nomark _)) (pss_one (ps_ret pe_bl)) pss_nil)
    (pss_cons (ps_if (pt_cmpR (op_neD hu) (pv 13) (pe_call DU.ok hr1 rfl DU.mg DU.kp DU.bi .nil pass0 (pa_cons (pv 9) (pa_cons (pv 5) (pa_cons (pv 6) (pa_cons (pv 7) (pa_cons (pv 8) pa_nil)))))) (nomark _)) (pss_one (ps_ret pe_bl)) pss_nil)
    (pss_one (ps_if (pt_cmpR (op_neD hu) (pe_callN0 AL.ok hr rfl AL.mg AL.kp bk pass0 (pk_cons (pv 7) (pk_cons (pv 6) (pk_cons (pv 5) (pk_cons (pv 9) pk_nil))))) (pv 12) (nomark _)) (pss_one (ps_ret pe_bl)) pss_nil))))), ?_⟩
  intro D n a md ot ms sa fs mdl otl msl ssl H y0 y1 y2 y3 y10 y11 y12 y13 I qs ls k
  refine ⟨_, rfl, _, rfl, _, rfl, _, rfl, ?_⟩
  dsimp only [tCons, tC, tNil, List.append_nil]
  refine ⟨fs, mdl, otl, msl, n, a, md, ot, ms, rfl, I, fun t1 H1 s1 n1 e1 => ?_⟩
  refine ⟨_, rfl, _, rfl, _, rfl, _, rfl, _, rfl, ?_⟩
  dsimp only [tCons, tC, tNil, List.append_nil]
  refine ⟨fs, mdl, otl, msl, ssl, n, a, md, ot, ms, sa, rfl, I.same s1, tup_same s1 qs, ls, fun t2 H2 s2 n2 e2 => ?_⟩
  refine ⟨_, _, rfl, ?_⟩
  -- flags
  refine ⟨_, rfl, _, rfl, ?_⟩
  dsimp only [tCons, tC, tNil, List.append_nil]
  refine ⟨t1, _, n, rfl, s2 _ _ e1, res_len _ _ _ _, I.n4, fun H3 s3 => ?_⟩
  refine ⟨_, rfl, _, rfl, _, rfl, ?_⟩
  dsimp only [tCons, tC, tNil, List.append_nil]
  refine ⟨t2, _, n, rfl, s3 _ _ e2, res_len _ _ _ _, I.n4, fun H4 s4 => ?_⟩
  refine ⟨_, rfl, ?_⟩
  have s14 := s3.trans s4
  have J4 := ((I.same s1).same s2).same s14
  have f1 := s14 _ _ (s2 _ _ e1)
  have f2 := s14 _ _ e2
  -- the first
  refine ⟨_, rfl, _, rfl, _, rfl, _, rfl, _, rfl, ?_⟩
  dsimp only [tCons, tC, tNil, List.append_nil]
  refine ⟨fs, mdl, otl, msl, _, n, a, md, ot, ms, .non, rfl, J4, .inl ⟨rfl, rfl⟩, fun t3 H5 s5 n5 e5 => ?_⟩
  refine ne_same (s5 _ _ f1) e5 ⟨_, rfl, ?_⟩
  -- the second
  refine ⟨_, rfl, _, rfl, _, rfl, _, rfl, _, rfl, _, rfl, ?_⟩
  dsimp only [tCons, tC, tNil, List.append_nil]
  refine ⟨fs, mdl, otl, msl, _, n, a, md, ot, ms, .ref sa, rfl, J4.same s5, .inr ⟨sa, ssl, rfl, tup_same s5 (tup_same s14 (tup_same s2 (tup_same s1 qs))), ls, rfl⟩, fun t4 H6 s6 n6 e6 => ?_⟩
  refine ne_same (s6 _ _ (s5 _ _ f2)) e6 ⟨_, rfl, ?_⟩
  -- by names
  refine ⟨_, rfl, _, rfl, _, rfl, _, rfl, rfl, rfl, ?_⟩
  refine ⟨fs, mdl, otl, msl, n, a, md, ot, ms, rfl, (J4.same s5).same s6, fun t5 H7 s7 n7 e7 => ?_⟩
  refine ⟨_, rfl, ?_⟩
  refine ne_same e7 (s7 _ _ (s6 _ _ (s5 _ _ f1))) ⟨_, rfl, ?_⟩
  exact k _ _ rfl rfl rfl (((((s1.trans s2).trans s14).trans s5).trans s6).trans s7)
/-- a fate is drawn -/
theorem law_fate {f fO : Addr} {fdO : FuncData} {cdv : Value} {A : Around} {outer : List Env} {s : Shared} {H0 : Hp} {E : XK}
    (hr : Room 2 (A.deeper (envOfC "law" (defScope sLaw) s.heap.objs.size f cdv))) (OF : Known P w K mg base CX0 2 "_law_of" ["_law_source_here", "_law_some"] (spOf K) fO fdO) :
    ∃ t, PSs (cxLaw P w K mg base f cdv A outer s H0 E) body3 t ∧
      ∀ (D : Ends) (n m : Nat) (p md ot l : Addr) (mdl otl : List Int) (fs : List Str) (tr : Int) (H : Hp) (y0 y1 y3 y4 y7 y8 y11 y12 y13 : Option V), Sc p m H → m ≤ 10000 → SqT K H md (mdl.map V.int) → SqT K H ot (otl.map V.int) → H l = some (.lst (fs.map V.str)) → l ≠ p → fs.length ≤ 10 →
        (∀ y11' x H', Gs p (m + 1) H H' → D.nx [y0, y1, some (.ref p), y3, y4, some (.ref md), some (.ref ot), y7, y8, some (.ref l), some (.int tr), y11', y12, y13] (upd H' l (.lst ((fs ++ [x]).map V.str)))) →
        t D [y0, y1, some (.ref p), y3, y4, some (.ref md), some (.ref ot), y7, y8, some (.ref l), some (.int tr), y11, y12, y13] H := by
  obtain ⟨tC, hC, qC⟩ : ∃ t, PSs (cxLaw P w K mg base f cdv A outer s H0 E) (body3.drop 1) t ∧
      ∀ (D : Ends) (m : Nat) (p l q : Addr) (fs ms : List Str) (H : Hp) (y0 y1 y3 y4 y5 y6 y7 y8 y10 y12 y13 : Option V), Sc p m H → m ≤ 10000 → H l = some (.lst (fs.map V.str)) → l ≠ p → q ≠ p → fs.length ≤ 10 → H q = some (.lst (ms.map V.str)) → 0 < ms.length → ms.length ≤ 1000 →
        (∀ x H', Gs p (m + 1) H H' → D.nx [y0, y1, some (.ref p), y3, y4, y5, y6, y7, y8, some (.ref l), y10, some (.ref q), y12, y13] (upd H' l (.lst ((fs ++ [x]).map V.str)))) →
        t D [y0, y1, some (.ref p), y3, y4, y5, y6, y7, y8, some (.ref l), y10, some (.ref q), y12, y13] H := by
    refine ⟨_, pss_one (ps_expr (pe_bm PySem.F.plainAttrs_list PySem.F.slot_list_append PySem.F.type_list_append mt_append (pv 9) (pa_cons (pe_call OF.ok hr rfl OF.mg OF.kp OF.bi .nil pass0 (pa_cons (pv 2) (pa_cons (pv 11) pa_nil))) pa_nil))), ?_⟩
    intro D m p l q fs ms H y0 y1 y3 y4 y5 y6 y7 y8 y10 y12 y13 S few el nl nq lf eq l0 l1 k
    refine ⟨_, rfl, .inl ⟨rfl, _, SqL.of el⟩, _, rfl, _, rfl, ?_⟩
    dsimp only [tCons, tC, tNil, List.append_nil]
    refine ⟨p, q, m, ms.map V.str, rfl, S, by omega, SqL.of eq, nq, by rw [List.length_map]; exact l0, by rw [List.length_map]; exact l1, fun x H' hx g => ?_⟩
    obtain ⟨z, _, rfl⟩ := List.mem_map.mp hx
    refine ⟨l, _, _, rfl, rfl, g.but _ _ nl el, ?_, ?_⟩
    · rw [List.length_map, sizeLine_eq]
      omega
    · have r := k z H' g
      rw [List.map_append] at r
      exact r
  refine ⟨_, pss_cons (ps_set (i := 11) scLaw.nd rfl (.inl rfl) (pe_ifExp (PW.pt (pw_or (pt_cmpR op_in_seq (pv 10) (pv 5) (by rfl)) (pw_or1 (pt_cmpR op_in_seq (pv 10) (pv 6) (by rfl)))))
      (pe_lst (pa_cons pe_str (pa_cons pe_str pa_nil))) (pe_lst (pa_cons pe_str (pa_cons pe_str (pa_cons pe_str (pa_cons pe_str pa_nil))))))) hC, ?_⟩
  intro D n m p md ot l mdl otl fs tr H y0 y1 y3 y4 y7 y8 y11 y12 y13 S few qm qo el nl lf k
  have fin : ∀ (q : Addr) (ms : List Str), H q = none → 0 < ms.length → ms.length ≤ 1000 → tC D [y0, y1, some (.ref p), y3, y4, some (.ref md), some (.ref ot), y7, y8, some (.ref l), some (.int tr), some (.ref q), y12, y13] (upd H q (.lst (ms.map V.str))) := by
    intro q ms hq l0 l1
    have s1 := same_new (o := HO.lst (ms.map V.str)) hq
    exact qC D m p l q fs ms _ _ _ _ _ _ _ _ _ _ _ _ (S.same s1) few (s1 _ _ el) nl (ne_of_none_r S hq) lf upd_same l0 l1 fun x H' g => k _ x H' ⟨(But.of s1).trans g.but, g.sc⟩
  refine ⟨_, rfl, _, rfl, in_tupI qm fun b1 => ⟨_, rfl, ?_⟩⟩
  cases b1
  · refine ⟨_, rfl, _, rfl, in_tupI qo fun b2 => ⟨_, rfl, ?_⟩⟩
    cases b2
    · exact ⟨by show 4 ≤ sizeLine; decide, fun q hq => fin q ["stays", "named", "lost", "goes"] hq (by decide) (by decide)⟩
    · exact ⟨by show 2 ≤ sizeLine; decide, fun q hq => fin q ["goes", "new"] hq (by decide) (by decide)⟩
  · exact ⟨by show 2 ≤ sizeLine; decide, fun q hq => fin q ["goes", "new"] hq (by decide) (by decide)⟩
end
end Wq
set_option Elab.async false
set_option linter.all false
set_option maxRecDepth 100000
set_option maxHeartbeats 4000000
namespace Wq
open PySem PySem.Spec PyProof.Rows L2
section
variable {P : Program} {w : World} {K : PySem.W.Frag} {mg : Str → Option Value} {base : Heap}
theorem law_turn {f fA fT fI fU fF fD fO fM : Addr} {fdA fdT fdI fdU fdF fdD fdO fdM : FuncData} {gk : List Value → List Value → List Value} {cdv : Value} {A : Around} {outer : List Env} {s : Shared} {H0 : Hp} {E : XK} (B : Bn mg)
    (hr : Room 2 (A.deeper (envOfC "law" (defScope sLaw) s.heap.objs.size f cdv)))
    (AL : Known P w K mg base CX0 2 "alone" ["fates", "made", "others", "memos"] (spAlone K) fA fdA) (bk : KBn K fdA ["fates", "made", "others", "memos"] 0 ["memos", "others", "made", "fates"] gk (fun vs zs => zs.reverse))
    (TG : Known P w K mg base CX0 2 "together" ["fates", "made", "others", "memos", "same"] (spTog K) fT fdT)
    (IF : Known P w K mg base CX0 1 "_law_is_flags" ["_law_told", "_law_size"] spIsf fI fdI)
    (DU : Known P w K mg base CX0 1 "_law_due" ["_law_own_fates", "_law_own_made", "_law_own_others", "_law_own_memos", "_law_same"] (spDue K) fU fdU)
    (FL : Known P w K mg base CX0 2 "_law_flags" ["_law_source_here", "_law_size"] spFlags fF fdF) (DR : Known P w K mg base CX0 1 "_law_draw" ["_law_source_here", "_law_many"] spDraw fD fdD)
    (OF : Known P w K mg base CX0 2 "_law_of" ["_law_source_here", "_law_some"] (spOf K) fO fdO) (MD : Known P w K mg base CX0 2 "_law_made" ["_law_source_here", "_law_size"] spMade fM fdM) :
    ∃ t, PSs (cxLaw P w K mg base f cdv A outer s H0 E) body2 t ∧
      ∀ (D : Ends) (m : Nat) (p : Addr) (H : Hp) (y0 y1 y3 y4 y5 y6 y7 y8 y9 y10 y11 y12 y13 : Option V), Sc p m H → m ≤ 500 →
        (∀ σ' H', σ'.length = 14 → σ'[0]? = some y0 → σ'[2]? = some (some (.ref p)) → Gs p (m + 50) H H' → D.nx σ' H') →
        t D [y0, y1, some (.ref p), y3, y4, y5, y6, y7, y8, y9, y10, y11, y12, y13] H := by
  obtain ⟨tR, hR, qR⟩ := law_rest (P := P) (w := w) (K := K) (base := base) (f := f) (cdv := cdv) (A := A) (outer := outer) (s := s) (H0 := H0) (E := E) B hr AL bk TG IF DU
  obtain ⟨tF, hF, qF⟩ := law_fate (P := P) (w := w) (K := K) (base := base) (f := f) (cdv := cdv) (A := A) (outer := outer) (s := s) (H0 := H0) (E := E) hr OF
  refine ⟨_, pss_cons (ps_set (i := 4) scLaw.nd rfl (.inl rfl) (pe_op op_add pe_int (pe_call DR.ok (hr.mono (by decide)) rfl DR.mg DR.kp DR.bi .nil pass0 (pa_cons (pv 2) (pa_cons pe_int pa_nil)))))
    (pss_cons (ps_par (i := 5) (j := 6) (by rfl) scLaw.nd rfl rfl (by decide) rfl rfl (pa_cons (pe_call MD.ok hr rfl MD.mg MD.kp MD.bi .nil pass0 (pa_cons (pv 2) (pa_cons (pv 4) pa_nil))) (pa_cons (pe_call MD.ok hr rfl MD.mg MD.kp MD.bi .nil pass0 (pa_cons (pv 2) (pa_cons (pv 4) pa_nil))) pa_nil)) (by rfl))
    (pss_cons (ps_par (i := 7) (j := 8) (by rfl) scLaw.nd rfl rfl (by decide) rfl rfl (pa_cons (pe_call FL.ok hr rfl FL.mg FL.kp FL.bi .nil pass0 (pa_cons (pv 2) (pa_cons (pv 4) pa_nil))) (pa_cons (pe_call FL.ok hr rfl FL.mg FL.kp FL.bi .nil pass0 (pa_cons (pv 2) (pa_cons (pv 4) pa_nil))) pa_nil)) (by rfl))
    (pss_cons (ps_set (i := 9) scLaw.nd rfl (.inl rfl) (pe_lst pa_nil))
    (pss_cons (ps_for PassesOwn.never rfl (pi_range2 rfl B.range (pa_cons pe_int (pa_cons (pe_op op_add (pv 4) pe_int) pa_nil))) (pg_name (i := 10) scLaw.nd rfl (.inl rfl)) hF)
    (pss_cons (ps_set (i := 9) scLaw.nd rfl (.inl rfl) (pe_callTy call_tuple_of (by rfl) B.tuple PyProof.Rows.boot_tuple (pa_cons (pv 9) pa_nil)))
    hR))))), ?_⟩
  intro D m p H y0 y1 y3 y4 y5 y6 y7 y8 y9 y10 y11 y12 y13 S few k
  refine ⟨_, rfl, p, 4, m, rfl, S, by omega, by decide, by decide, fun v H1 v0 v1 g1 => ?_⟩
  obtain ⟨j, rfl⟩ := Int.eq_ofNat_of_zero_le v0
  have j3 : j ≤ 3 := by omega
  have ez : (1 + (j : Int)) = ((j + 1 : Nat) : Int) := by omega
  refine ⟨_, _, rfl, rfl, ?_⟩
  dsimp only
  rw [ez]
  have n4 : j + 1 ≤ 4 := by omega
  generalize j + 1 = n at n4
  -- made, others, memos, same
  refine ⟨_, rfl, _, rfl, p, m + 1, n, rfl, g1.sc, by omega, n4, fun md mdl H2 n2 e2 g2 => ?_⟩
  refine ⟨_, rfl, _, rfl, p, m + 1 + 4, n, rfl, g2.sc, by omega, n4, fun ot otl H3 n3 e3 g3 => ?_⟩
  refine ⟨_, _, rfl, ?_⟩
  refine ⟨_, rfl, _, rfl, p, m + 1 + 4 + 4, n, rfl, g3.sc, by omega, n4, fun ms msl H5 l5 n5 e5 g5 => ?_⟩
  refine ⟨_, rfl, _, rfl, p, m + 1 + 4 + 4 + 4, n, rfl, g5.sc, by omega, n4, fun sa ssl H6 l6 n6 e6 g6 => ?_⟩
  refine ⟨_, _, rfl, ?_⟩
  have q2 : SqT K H6 md (mdl.map V.int) := ((g3.trans g5).trans g6).tup g2.sc (SqT.of e2)
  have q3 : SqT K H6 ot (otl.map V.int) := (g5.trans g6).tup g3.sc (SqT.of e3)
  have q5 : SqT K H6 ms (msl.map V.bl) := g6.tup g5.sc (SqT.of e5)
  have q6 : SqT K H6 sa (ssl.map V.bl) := SqT.of e6
  have G6 : Gs p (m + 1 + 4 + 4 + 4 + 4) H H6 := (((g1.trans g2).trans g3).trans g5).trans g6
  -- fates
  refine ⟨Nat.zero_le _, fun l hl => ?_⟩
  have nl : l ≠ p := ne_of_none_r G6.sc hl
  refine ⟨_, rfl, _, _, rfl, rfl, 1, _, rfl, ⟨by decide, by decide, by omega, by omega⟩, ?_⟩
  have en : ((n : Int) + 1 - 1).toNat = n := by omega
  rw [en]
  refine for_range (fun i σ H' => Gs p (m + 1 + 4 + 4 + 4 + 4 + i) H6 H' ∧ (∃ fs : List Str, fs.length = i ∧ H' l = some (.lst (fs.map V.str))) ∧ ∃ y10 y11, σ = [y0, y1, some (.ref p), y3, some (.int n), some (.ref md), some (.ref ot), some (.ref ms), some (.ref sa), some (.ref l), y10, y11, y12, y13])
    ⟨(Gs.refl G6.sc).new hl, ⟨[], rfl, upd_same⟩, _, _, rfl⟩ ?_ ?_
  · rintro i σ H7 hi ⟨g7, ⟨fs, lf, ef⟩, y10', y11', rfl⟩
    refine qF _ n (m + 1 + 4 + 4 + 4 + 4 + i) p md ot l mdl otl fs _ H7 _ _ _ _ _ _ _ _ _ g7.sc (by omega) (g7.tup G6.sc q2) (g7.tup G6.sc q3) ef nl (by omega) fun y11' x H' g => ?_
    exact ⟨(g7.trans g).over hl nl, ⟨fs ++ [x], by simp [lf], upd_same⟩, _, _, rfl⟩
  · rintro σ H7 ⟨g7, ⟨fs, lf, ef⟩, y10', y11', rfl⟩
    refine ⟨_, rfl, l, _, rfl, .inl ⟨SqL.of ef, fun a ha => ?_⟩⟩
    have s8 := same_new (o := HO.tup (fs.map V.str)) ha
    have I : InpAt K (upd H7 a (.tup (fs.map V.str))) fs mdl otl msl n a md ot ms := ⟨SqT.of upd_same, tup_same s8 (g7.tup G6.sc q2), tup_same s8 (g7.tup G6.sc q3), tup_same s8 (g7.tup G6.sc q5), lf, l5, n4⟩
    refine qR D n a md ot ms sa fs mdl otl msl ssl _ _ _ _ _ _ _ _ _ I (tup_same s8 (g7.tup G6.sc q6)) l6 fun σ' H' h1 h2 h3 s' => ?_
    exact k σ' H' h1 h2 h3 (((G6.trans g7).same (s8.trans s')).le (by omega))
/-! ## the law -/
def spLaw (K : PySem.W.Frag) : Sp := fun vs H Q _ => ∃ (a : Addr) (ns : List Int), vs = [.ref a] ∧ SqL K H a (ns.map V.int) ∧ ns.length ≤ 63 ∧ ∀ H', Q (.bl true) H'
theorem sqL_but {H H1 H2 : Hp} {a p : Addr} {xs : List V} (h : SqL K H a xs) (hp : H p = none) (s0 : Same H H1) (b : But p H1 H2) : SqL K H2 a xs := by
  rcases h with (h | ⟨o, h⟩) | h
  · exact .inl (.inl (b _ _ (ne_of_none h hp) (s0 _ _ h)))
  · exact .inl (.inr ⟨o, b _ _ (ne_of_none h hp) (s0 _ _ h)⟩)
  · exact .inr h
theorem ok_law {f fA fT fI fU fF fD fO fM fS : Addr} {fd fdA fdT fdI fdU fdF fdD fdO fdM fdS : FuncData} {gk : List Value → List Value → List Value} (F : Fun K "law" "law" sLaw f fd) (B : Bn mg)
    (AL : Known P w K mg base CX0 2 "alone" ["fates", "made", "others", "memos"] (spAlone K) fA fdA) (bk : KBn K fdA ["fates", "made", "others", "memos"] 0 ["memos", "others", "made", "fates"] gk (fun vs zs => zs.reverse))
    (TG : Known P w K mg base CX0 2 "together" ["fates", "made", "others", "memos", "same"] (spTog K) fT fdT)
    (IF : Known P w K mg base CX0 1 "_law_is_flags" ["_law_told", "_law_size"] spIsf fI fdI)
    (DU : Known P w K mg base CX0 1 "_law_due" ["_law_own_fates", "_law_own_made", "_law_own_others", "_law_own_memos", "_law_same"] (spDue K) fU fdU)
    (FL : Known P w K mg base CX0 2 "_law_flags" ["_law_source_here", "_law_size"] spFlags fF fdF) (DR : Known P w K mg base CX0 1 "_law_draw" ["_law_source_here", "_law_many"] spDraw fD fdD)
    (OF : Known P w K mg base CX0 2 "_law_of" ["_law_source_here", "_law_some"] (spOf K) fO fdO) (MD : Known P w K mg base CX0 2 "_law_made" ["_law_source_here", "_law_size"] spMade fM fdM)
    (SR : Known P w K mg base CX0 1 "_law_source" ["_law_script", "_law_place"] (spSource K) fS fdS) : FnOk P w K mg base CX0 3 f fd ["_law_script"] (spLaw K) := by
  refine F.ok scLaw (fun vs H Q E h => ?_) (fun cdv A outer s H vs Q E hr h => ?_)
  · obtain ⟨a, ns, rfl, _⟩ := h
    rfl
  · obtain ⟨a, ns, rfl, hS, few, k⟩ := h
    obtain ⟨tT, hT, qT⟩ := law_turn (P := P) (w := w) (K := K) (base := base) (f := f) (cdv := cdv) (A := A) (outer := outer) (s := s) (H0 := H) (E := E) B hr AL bk TG IF DU FL DR OF MD
    refine ⟨_, pss_cons (ps_for PassesOwn.never rfl (pi_range1 (by rfl) B.range (pa_cons (pe_callB (call_max2 rfl) (by rfl) B.max (by decide +kernel) (pa_cons pe_int (pa_cons (pe_callB (call_min2 rfl) (by rfl) B.min (by decide +kernel) (pa_cons pe_int (pa_cons (pe_callB call_len_seq (by rfl) B.len PySem.boot_len (pa_cons (pv 0) pa_nil)) pa_nil))) pa_nil))) pa_nil)) (pg_name (i := 1) scLaw.nd rfl (.inl rfl))
        (pss_cons (ps_set (i := 2) scLaw.nd rfl (.inl rfl) (pe_call SR.ok (hr.mono (by decide)) rfl SR.mg SR.kp SR.bi .nil pass0 (pa_cons (pv 0) (pa_cons (pv 1) pa_nil))))
        (pss_one (ps_for PassesOwn.never rfl (pi_range1 (by rfl) B.range (pa_cons pe_int pa_nil)) (pg_name (i := 3) scLaw.nd rfl (.inl rfl)) hT))))
      (pss_one (ps_ret pe_bl)), ?_⟩
    refine ⟨_, rfl, a, _, rfl, .inl hS, _, _, rfl, _, _, rfl, _, rfl, ?_, ?_, ?_⟩
    · split <;> (try split) <;> omega
    · split <;> (try split) <;> omega
    refine for_range (fun i σ H' => σ.length = 14 ∧ σ[0]? = some (some (.ref a)) ∧ SqL K H' a (ns.map V.int)) ⟨rfl, rfl, hS⟩ ?_ ?_
    · rintro i σ H1 hi ⟨l14, e0, sq⟩
      obtain ⟨y0, y1, y2, y3, y4, y5, y6, y7, y8, y9, y10, y11, y12, y13, rfl⟩ := len14 l14
      cases e0
      refine ⟨_, rfl, _, rfl, a, ns, _, rfl, sq, few, by omega, fun p H2 s2 hp S => ?_⟩
      refine ⟨_, rfl, by decide, by decide, ?_⟩
      refine for_range (fun i σ H' => σ.length = 14 ∧ σ[0]? = some (some (.ref a)) ∧ σ[2]? = some (some (.ref p)) ∧ Gs p (50 * i) H2 H') ⟨rfl, rfl, rfl, Gs.refl S⟩ ?_ ?_
      · rintro i2 σ H3 hi2 ⟨l14, e0, e2, g⟩
        obtain ⟨z0, z1, z2, z3, z4, z5, z6, z7, z8, z9, z10, z11, z12, z13, rfl⟩ := len14 l14
        cases e0
        cases e2
        have i3 : i2 < 3 := hi2
        exact qT _ (50 * i2) p H3 _ _ _ _ _ _ _ _ _ _ _ _ _ g.sc (by omega) fun σ' H' h1 h2 h3 h4 => ⟨h1, h2, h3, (g.trans h4).le (by omega)⟩
      · rintro σ H3 ⟨l14, e0, e2, g⟩
        exact ⟨l14, e0, sqL_but sq hp s2 g.but⟩
    · rintro σ H1 ⟨l14, e0, sq⟩
      exact k _
end
end Wq
set_option Elab.async false
set_option linter.all false
set_option maxRecDepth 100000
set_option maxHeartbeats 0
namespace Wq
open PySem PySem.Spec PyProof.Rows L2
/-! ## the head: facts by names -/
def dd (x : Str) (i : Nat) : He.DefD := ⟨(x, none), x, x, defArgs (top i), defBody (top i), defScope (top i), [], []⟩
def fn : List He.DefD := [dd "_memos_after" 1, dd "alone" 2, dd "together" 3, dd "_law_source" 5, dd "_law_draw" 6, dd "_law_of" 7, dd "_law_made" 8, dd "_law_flags" 9, dd "_law_due" 10, dd "_law_is_flags" 11, dd "law" 12]
def fa : List He.Fa := [.glo "_memos_after", .glo "alone", .glo "together", .glo "_law_source", .glo "_law_draw", .glo "_law_of", .glo "_law_made", .glo "_law_flags", .glo "_law_due", .glo "_law_is_flags", .glo "law", .free "int", .free "len", .free "abs", .free "range", .free "tuple", .free "max", .free "min", .free "zip", .free "enumerate", .free "isinstance", .free "bool"]
abbrev R : PySem.W.OpenRow := PySem.W.OpenLaw.row PySem.Challenge.rw_waypairs_k48_memos_of_two_ways
abbrev hk : PySem.W.Hook := He.hookD 4 fa fn
def ob (s : PySem.W.SharedT) : He.AlD := He.obsDG 4 fa fn (HandSHeadRun.getT s)
theorem ob_eq (s : PySem.W.SharedT) : ob s = hk.obs s.abs := He.obsDG_eq (HandSHeadRun.getT_eq s)
theorem run (w : World) : HandSHeadRun.RunEq R (PySem.W.view R.prog [12]) hk ob 2000 ["_memos_after", "alone", "together", "_law_source", "_law_draw", "_law_of", "_law_made", "_law_flags", "_law_due", "_law_is_flags"] w := by
  intro os
  kernel_rfl
theorem vals_rev : ∀ {vs : List V} {us : List Value}, Vals vs us → Vals vs.reverse us.reverse
  | [], [], .nil => .nil
  | _ :: _, _ :: _, .cons h r => by
    rw [List.reverse_cons, List.reverse_cons]
    exact (vals_rev r).append (.cons h .nil)
theorem facts {P : Program} {w : World} {K : PySem.W.Frag} {h : Heap} {mg : Str → Option Value} {f : Addr} (X : K.In h) (G : h.Ns mainGlobals mg) (hfa : mg ("law" : Str) = some (.ref f)) (c : He.SaysD fa fn K) :
    ∃ fd : FuncData, (∀ (s : Shared) (v : Value), BindsTo s fd ⟨[v], []⟩ [("_law_script", v)]) ∧ ∀ base : Heap, K.In base → base.Ns mainGlobals mg → FnOk P w K mg base CX0 3 f fd ["_law_script"] (spLaw K) := by
  obtain ⟨fd0, F0⟩ := c.def_ 0 (d := dd "_memos_after" 1) rfl
  obtain ⟨fd1, F1⟩ := c.def_ 1 (d := dd "alone" 2) rfl
  obtain ⟨fd2, F2⟩ := c.def_ 2 (d := dd "together" 3) rfl
  obtain ⟨fd3, F3⟩ := c.def_ 3 (d := dd "_law_source" 5) rfl
  obtain ⟨fd4, F4⟩ := c.def_ 4 (d := dd "_law_draw" 6) rfl
  obtain ⟨fd5, F5⟩ := c.def_ 5 (d := dd "_law_of" 7) rfl
  obtain ⟨fd6, F6⟩ := c.def_ 6 (d := dd "_law_made" 8) rfl
  obtain ⟨fd7, F7⟩ := c.def_ 7 (d := dd "_law_flags" 9) rfl
  obtain ⟨fd8, F8⟩ := c.def_ 8 (d := dd "_law_due" 10) rfl
  obtain ⟨fd9, F9⟩ := c.def_ 9 (d := dd "_law_is_flags" 11) rfl
  obtain ⟨fd10, F10⟩ := c.def_ 10 (d := dd "law" 12) rfl
  have e := hfa.symm.trans (He.glo_ok X G (c.fact 10 (f := .glo "law") rfl))
  cases e
  have B : Bn mg := ⟨He.free_ok X G (c.fact 11 (f := .free "int") rfl), He.free_ok X G (c.fact 12 (f := .free "len") rfl), He.free_ok X G (c.fact 13 (f := .free "abs") rfl), He.free_ok X G (c.fact 14 (f := .free "range") rfl), He.free_ok X G (c.fact 15 (f := .free "tuple") rfl), He.free_ok X G (c.fact 16 (f := .free "max") rfl), He.free_ok X G (c.fact 17 (f := .free "min") rfl), He.free_ok X G (c.fact 18 (f := .free "zip") rfl), He.free_ok X G (c.fact 19 (f := .free "enumerate") rfl), He.free_ok X G (c.fact 20 (f := .free "isinstance") rfl), He.free_ok X G (c.fact 21 (f := .free "bool") rfl)⟩
  have b := FunD.bindsA (ps := ["_law_script"]) F10 fun _ _ _ _ _ _ us hl => match us, hl with | [_], _ => rfl
  have b0 := FunD.bindsN (ps := ["fates", "made", "others", "kept"]) F0 fun _ _ _ _ _ _ us hl => match us, hl with | [_, _, _, _], _ => rfl
  have b1 := FunD.bindsN (ps := ["fates", "made", "others", "memos"]) F1 fun _ _ _ _ _ _ us hl => match us, hl with | [_, _, _, _], _ => rfl
  have b2 := FunD.bindsN (ps := ["fates", "made", "others", "memos", "same"]) F2 fun _ _ _ _ _ _ us hl => match us, hl with | [_, _, _, _, _], _ => rfl
  have b3 := FunD.bindsN (ps := ["_law_script", "_law_place"]) F3 fun _ _ _ _ _ _ us hl => match us, hl with | [_, _], _ => rfl
  have b4 := FunD.bindsN (ps := ["_law_source_here", "_law_many"]) F4 fun _ _ _ _ _ _ us hl => match us, hl with | [_, _], _ => rfl
  have b5 := FunD.bindsN (ps := ["_law_source_here", "_law_some"]) F5 fun _ _ _ _ _ _ us hl => match us, hl with | [_, _], _ => rfl
  have b6 := FunD.bindsN (ps := ["_law_source_here", "_law_size"]) F6 fun _ _ _ _ _ _ us hl => match us, hl with | [_, _], _ => rfl
  have b7 := FunD.bindsN (ps := ["_law_source_here", "_law_size"]) F7 fun _ _ _ _ _ _ us hl => match us, hl with | [_, _], _ => rfl
  have b8 := FunD.bindsN (ps := ["_law_own_fates", "_law_own_made", "_law_own_others", "_law_own_memos", "_law_same"]) F8 fun _ _ _ _ _ _ us hl => match us, hl with | [_, _, _, _, _], _ => rfl
  have b9 := FunD.bindsN (ps := ["_law_told", "_law_size"]) F9 fun _ _ _ _ _ _ us hl => match us, hl with | [_, _], _ => rfl
  have bk : KBn K fd1 ["fates", "made", "others", "memos"] 0 ["memos", "others", "made", "fates"] (fun us ws => ws.reverse) (fun vs zs => zs.reverse) := by
    obtain ⟨oc, od, dV, kV, doc, pm, an, cdv, ct, osl, rfl, lk, hcd, hD, hK⟩ := F1.ex
    rcases hD with ⟨_, rfl⟩ | ⟨e, _⟩
    · refine ⟨fun s us ws X l1 l2 => ?_, fun r1 r2 => ?_⟩
      · match us, l1, ws, l2 with
        | [], _, [_, _, _, _], _ => exact .of_eq rfl
      · exact vals_rev r2
    · exact absurd rfl e
  refine ⟨fd10, fun s v => b s [v] rfl, fun base _ _ => ?_⟩
  have g := fun (i : Nat) (x : Str) (e : fa[i]? = some (.glo x)) => He.glo_ok (x := x) X G (c.fact i (f := .glo x) e)
  have k0 : Known P w K mg base CX0 1 "_memos_after" _ (spAfter K) _ fd0 := ⟨ok_after (He5.fun_of (st := top 1) F0) B, g 0 "_memos_after" rfl, F0.kp, b0⟩
  have k1 : Known P w K mg base CX0 2 "alone" _ (spAlone K) _ fd1 := ⟨ok_alone (He5.fun_of (st := top 2) F1) B k0, g 1 "alone" rfl, F1.kp, b1⟩
  have k2 : Known P w K mg base CX0 2 "together" _ (spTog K) _ fd2 := ⟨ok_tog (He5.fun_of (st := top 3) F2) B k0, g 2 "together" rfl, F2.kp, b2⟩
  have k3 : Known P w K mg base CX0 1 "_law_source" _ (spSource K) _ fd3 := ⟨ok_source (He5.fun_of (st := top 5) F3) B, g 3 "_law_source" rfl, F3.kp, b3⟩
  have k4 : Known P w K mg base CX0 1 "_law_draw" _ spDraw _ fd4 := ⟨ok_draw (He5.fun_of (st := top 6) F4) B, g 4 "_law_draw" rfl, F4.kp, b4⟩
  have k5 : Known P w K mg base CX0 2 "_law_of" _ (spOf K) _ fd5 := ⟨ok_of (He5.fun_of (st := top 7) F5) B k4, g 5 "_law_of" rfl, F5.kp, b5⟩
  have k6 : Known P w K mg base CX0 2 "_law_made" _ spMade _ fd6 := ⟨ok_made (He5.fun_of (st := top 8) F6) B k4, g 6 "_law_made" rfl, F6.kp, b6⟩
  have k7 : Known P w K mg base CX0 2 "_law_flags" _ spFlags _ fd7 := ⟨ok_flags (He5.fun_of (st := top 9) F7) B k4, g 7 "_law_flags" rfl, F7.kp, b7⟩
  have k8 : Known P w K mg base CX0 1 "_law_due" _ (spDue K) _ fd8 := ⟨ok_due (He5.fun_of (st := top 10) F8) B, g 8 "_law_due" rfl, F8.kp, b8⟩
  have k9 : Known P w K mg base CX0 1 "_law_is_flags" _ spIsf _ fd9 := ⟨ok_isf (He5.fun_of (st := top 11) F9) B, g 9 "_law_is_flags" rfl, F9.kp, b9⟩
  exact ok_law (He5.fun_of (st := top 12) F10) B k1 bk k2 k9 k8 k7 k4 k5 k6 k3
end Wq
open PySem PySem.W PySem.Calls PyProof.Rows
theorem PySem.Challenge.cw_waypairs_k48_memos_of_two_ways_holds : PySem.Challenge.rw_waypairs_k48_memos_of_two_ways.Holds := by
  w_on; o_law
  refine HandSHeadRun.head_any (r := OpenLaw.row PySem.Challenge.rw_waypairs_k48_memos_of_two_ways) (q := view (OpenLaw.row PySem.Challenge.rw_waypairs_k48_memos_of_two_ways).prog [12]) (H := Wq.hk) (ob := Wq.ob) (M := 2000) (loose := ["_memos_after", "alone", "together", "_law_source", "_law_draw", "_law_of", "_law_made", "_law_flags", "_law_due", "_law_is_flags"]) (d := HandSHeadRun.topDef (OpenLaw.row PySem.Challenge.rw_waypairs_k48_memos_of_two_ways).prog 12) (kwd := []) Wq.ob_eq
    (by kernel_rfl) (fun s => by kernel_rfl) Wq.run (by kernel_rfl) (by kernel_rfl) (by kernel_rfl) (by rfl) (by first | assumption | decide +kernel) (by decide +kernel) ⟨rfl, rfl, rfl, rfl, rfl, by decide +kernel⟩ ?hw ?hc
  case hw => w_witness2
  case hc =>
    refine L2.walk_ofE (l := PySem.Challenge.rw_waypairs_k48_memos_of_two_ways) (n := 63) (k := 3) (x := "_law_script") (CX := L2.CX0) rfl (by decide) (by kernel_rfl) ⟨rfl, by decide, by decide⟩ ?F (fun _ _ _ _ z => z)
    intro w mg fa h Y G hmg0
    obtain ⟨K, KX, c⟩ := Y
    have hmg : mg ("law" : PySem.Str) = some (.ref fa) := by
      have e : (HandSHeadRun.topDef (OpenLaw.row PySem.Challenge.rw_waypairs_k48_memos_of_two_ways).prog 12).name = ("law" : PySem.Str) := by kernel_rfl
      rw [← e]
      exact hmg0
    obtain ⟨fd, hb, hF⟩ := Wq.facts (P := (PySem.Challenge.rw_waypairs_k48_memos_of_two_ways).prog) (w := w) KX G hmg c
    exact ⟨K, fd, Wq.spLaw K, KX, hb, fun H a ns hl _ hS => ⟨a, ns, rfl, hS, hl, fun _ => rfl⟩, hF⟩
