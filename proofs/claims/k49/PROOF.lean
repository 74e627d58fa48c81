import PyProof.Rows.All
import Wide.All
import OpenK.AllK
import Wide.FinOn
import HandS.Iter
import KE.GoesZip
import KE.GoesEnum
import KE.GoesMore
import HandS.ForMost
import HandS.Wide
import HandS.IsInst
import HandS.Flow
import HandS.Walk
import HandS.Defaults
import HandS.MakeKwOnly
import HandS.Comp
import HandS.Style
import HandS.Zip
import HandS.More
import HandS.Words
import HandS.WordsExc
import HandS.Head0
import HandS.Head1
import HandS.Head2
import HandS.HeadEnd
import HandS.HeadHook1
import HandS.HeadHook2
import HandS.HeadNt
import PySem.Challenge.RW_waypairs_k49_meetings
set_option Elab.async false
set_option linter.all false
set_option maxRecDepth 100000
set_option maxHeartbeats 4000000
namespace Wq
open PySem PySem.Spec PyProof.Rows L2
/-! ## enumerate(tuple) -/
/-- the tuple at a as it stands at each turn, each item in a new pair -/
def IteT (K : PySem.W.Frag) (a : Addr) : It :=
  ⟨fun i H => ∃ (xs : List V) (x : V), SqT K H a xs ∧ xs[i]? = some x, fun i H v H' => ∃ T x, v = .ref T ∧ H T = none ∧ H' = upd H T (.tup [.int (i : Nat), x]) ∧ ∀ xs, SqT K H a xs → xs[i]? = some x, fun i H => ∃ xs : List V, SqT K H a xs ∧ xs.length = i⟩
theorem turn_enumT {P : Program} {w : World} {K : PySem.W.Frag} {elts : List Expr} {kk : Nat} {tpos : Pos} (a e it : Addr) (hae : a ≠ e) (hai : a ≠ it) :
    Turn P w K (.Tuple elts kk tpos) (IteT K a) [e, it] e (fun i h => (∃ old, IsEnum h e it ((i : Nat) : Int) old) ∧ h.IsTupleIter it a i ∧ e ≠ it) where
  mem := by simp
  obj := fun i h st b hb => by
    obtain ⟨⟨old, he⟩, ⟨o, ho, hc, hd⟩, _⟩ := st
    have e' : b = e ∨ b = it := by simpa using hb
    rcases e' with z | z
    · rw [z]; exact ⟨_, he, fun v q => nomatch q⟩
    · rw [z]; exact ⟨o, ho, fun v q => by rw [hd] at q; cases q⟩
  keep := fun i h h' st k => let ⟨⟨old, he⟩, hi, hne⟩ := st; ⟨⟨old, k e (by simp) _ he⟩, hi.at fun o q => k it (by simp) o q, hne⟩
  item := by
    intro X hP hw hK hc i pins s σ H E I hf st hg
    subst hP hw hK
    obtain ⟨⟨old, he⟩, hit, hne⟩ := st
    obtain ⟨xs, x, hq, hx⟩ := hg
    obtain ⟨its, rv, p, hz⟩ := I.tuple hq
    obtain ⟨u, hu, ru⟩ := rv.get hx
    have hel : e < s.heap.objs.size := Heap.lt_size he
    have hil : it < s.heap.objs.size := by obtain ⟨_, q, _⟩ := hit; exact Heap.lt_size q
    have hlt : i < its.toArray.size := by
      have : its.toArray[i]? = some u := by simpa using hu
      exact (Array.getElem?_eq_some_iff.mp this).1
    refine wpAny_pyNext_enum_itemC (c := (i : Int)) (Draws.tuple (prog := X.prog) (w := X.w) (A := X.A.in1) (show X.A.in1.handled = none from I.ok.hd hc) it a hai its.toArray) he ⟨hit, p⟩ hlt hne (by simp [hne, Ne.symm hae]) fun x1 h' tk hx1 ho hit' hT hsz hk => ?_
    have ex : x1 = u := by
      have q : its.toArray[i]? = some x1 := hx1
      have q2 : its.toArray[i]? = some u := by simpa using hu
      exact Option.some.inj (q.symm.trans q2)
    subst ex
    refine ⟨_, rfl, wpAny_letOwnedTupleGo_enum (s := { s with heap := h', toks := tk + 1 }) ho fun h'' he' sb => ?_⟩
    have hT2 : h''.get? s.heap.objs.size = some { cls := .type "tuple", data := .seq #[.int i tk, x1] } := (sb.2 _ (Nat.ne_of_gt hel)).trans hT
    have new : ObjOk X.prog X.w (upd H s.heap.objs.size (.tup [.int (i : Nat), x])) h'' s.heap.objs.size (.tup [.int (i : Nat), x]) :=
      ⟨by show 2 ≤ sizeLine; decide, [.int i tk, x1], .cons ⟨_, rfl⟩ (.cons ru .nil), ⟨_, hT2, rfl, _, rfl⟩⟩
    have I1 : Inv X pins σ (upd H s.heap.objs.size (.tup [.int (i : Nat), x])) { s with heap := h'', toks := tk + 1 } :=
      I.turnedNew (ch := [e, it]) (fun b ob hb q => (sb.2 b (fun z => hb (by simp [z]))).trans (hk b ob (fun z => hb (by simp [z])) (fun z => hb (by simp [z])) q)) hf (Nat.le_refl _) new
    refine ⟨.ref s.heap.objs.size, _, I1, rfl, ⟨_, x, rfl, I.hok.fresh (Nat.le_refl _), rfl, fun ys hy => by rw [I.tuple_inj hy hq]; exact hx⟩, ⟨⟨x1, ?_⟩, hit'.1.at fun o q => (sb.2 it (Ne.symm hne)).trans q, hne⟩, fun b hb => ?_⟩
    · have e1 : ((i + 1 : Nat) : Int) = (i : Int) + 1 := by omega
      rw [e1]; exact he'
    · have hb' : b < s.heap.objs.size := by
        have e' : b = e ∨ b = it := by simpa using hb
        rcases e' with z | z
        · rw [z]; exact hel
        · rw [z]; exact hil
      rw [upd_ne (Nat.ne_of_lt hb')]
      exact (hf b hb).1
  done := by
    intro X hP hw hK hc i pins s σ H E I hf st hg
    subst hP hw hK
    obtain ⟨⟨old, he⟩, hit, hne⟩ := st
    obtain ⟨xs, hq, hx⟩ := hg
    obtain ⟨its, rv, p, hz⟩ := I.tuple hq
    obtain ⟨f0, f1, f2, f3, f4, f5⟩ := hf it (by simp)
    have hl := rv.length
    have hi : i = its.toArray.size := by
      rw [List.size_toArray]
      omega
    subst hi
    exact wpAny_pyNext_enum_endD (Draws.tuple (prog := X.prog) (w := X.w) (A := X.A.in1) (show X.A.in1.handled = none from I.ok.hd hc) it a hai its.toArray) he ⟨hit, p⟩ fun h' eb => ⟨rfl, I.turned (t' := s.toks) (fun b o hb q => eb b o hb q) f0 f1 f3 f4 f5⟩
  self := fun A i s Q E st h => let ⟨⟨_, he⟩, _⟩ := st; wpAny_pyIter_enum he h
set_option maxHeartbeats 1000000 in
theorem meets_enumerate_newB1 {v : Value} {o : Obj} {H : Heap → Prop} (B : Begins v o H) :
    Meets (Builtin.«enumerate.__new__» ⟨[.type "enumerate", v], []⟩) (fun _ R s => H s.heap ∧
      R (.ok (.ret (.ref (s.heap.push o).objs.size))) { s with heap := (s.heap.push o).push { cls := .type "enumerate", data := .fields #[.none, .bool false, .ref s.heap.objs.size, rawInt 0, .none, .none] } }) :=
  .of_wp fun prog w A R s h => by
    obtain ⟨hp, g, d, tk, os⟩ := s; obtain ⟨h1, h⟩ := h
    have hsub := sub_enumerate
    have q1 : ∀ {A' : Around} {E : Value → Shared → Prop} {Q : Value → Shared → Prop}, Q (.ref hp.objs.size) ⟨hp.push o, g, d, tk, os⟩ → wpAny (model prog w) A' (pyIter v) Q E ⟨hp, g, d, tk, os⟩ :=
      fun q => B.iter prog w _ _ ⟨hp, g, d, tk, os⟩ _ h1 q
    wp_walk using q1
    refine wpAny_stack_any fun st => wpAny_pure ?_
    split
    · rename_i c _ _ _ _ _
      cases (c == Value.type "enumerate")
      · wp_walk using q1
        exact ⟨_, rfl, h⟩
      · wp_walk using q1
        exact ⟨_, rfl, h⟩
    · wp_walk using q1
      exact ⟨_, rfl, h⟩
section
variable {prog : Program} {w : World} {A : Around} {E : Value → Shared → Prop} {s : Shared}
theorem enum_begins1 {v : Value} {o : Obj} {H : Heap → Prop} {Q : Value → Shared → Prop} (B : Begins v o H) (h1 : H s.heap)
    (h : ∀ h', IsEnum h' (s.heap.objs.size + 1) s.heap.objs.size 0 .none → h'.get? s.heap.objs.size = some o → h'.objs.size = s.heap.objs.size + 2 →
      (∀ b o, s.heap.get? b = some o → h'.get? b = some o) → Q (.ref (s.heap.objs.size + 1)) { s with heap := h' }) :
    wpAny (model prog w) A (call (.type "enumerate") [v]) Q E s := by
  refine callType_new F.called_enumerate (by decide) (F.typeCall_enumerate_1 _) (F.newCall_enumerate_1 _) (fun obj => F.args_object_init_2 obj _) F.entry_enumerate_new
    (meets_enumerate_newB1 B) ⟨h1, ?_⟩
  have hz : (s.heap.push o).objs.size = s.heap.objs.size + 1 := Heap.size_push ..
  show _ ∧ _
  rw [hz]
  have he : IsEnum ((s.heap.push o).push { cls := .type "enumerate", data := .fields #[.none, .bool false, .ref s.heap.objs.size, rawInt 0, .none, .none] }) (s.heap.objs.size + 1) s.heap.objs.size 0 .none := by
    have := Heap.get?_push_size (s.heap.push o) (o := { cls := .type "enumerate", data := .fields #[.none, .bool false, .ref s.heap.objs.size, rawInt 0, .none, .none] }) rfl
    rw [hz] at this; exact this
  refine ⟨⟨_, he, rfl⟩, h _ he (Heap.get?_push_of_some _ (Heap.get?_push_size _ B.free)) (by rw [Heap.size_push, hz]) fun b o x => Heap.get?_push_of_some _ (Heap.get?_push_of_some _ x)⟩
end
def iEnumT (K : PySem.W.Frag) (ta : TA) : TI := fun σ H R => ta σ H fun vs H1 => ∃ a xs, vs = [.ref a] ∧ SqT K H1 a xs ∧ R (IteT K a) H1
theorem pi_enumT {X : Cx} {e : Expr} {ta : TA} {p pos tpos : Pos} {elts : List Expr} {kk : Nat} (hg : Gl X "enumerate") (hm : X.mg "enumerate" = none) (ha : PA X [e] ta) (hs : starEach [e] X.env = [(false, eval e X.env)] := by rfl) :
    PI X (.Tuple elts kk tpos) (.Call (.Name "enumerate" p) [e] [] pos) (iEnumT X.K ta) := by
  refine ⟨fun pins s σ H R I h => ?_⟩
  refine Call_ (ld_blt I hg hm boot_enumerate (PyProof.Rows.callWith_type1 (thn (ha.run pos pins s σ H _ I h) fun us s1 ⟨vs, H1, I1, r1, q1⟩ => ?_) hs rfl))
  obtain ⟨a, xs, ex, hq, q⟩ := q1
  subst ex
  cases r1 with
  | cons r rr =>
    cases rr
    cases r
    obtain ⟨its, rv, p', hz⟩ := I1.tuple hq
    obtain ⟨o1, ho1, _⟩ := id p'
    have la : a < s1.heap.objs.size := Heap.lt_size ho1
    refine enum_begins1 (begins_tuple a its.toArray) p' fun h' he hit hsz hk => wpAny_pyIter_enum he ?_
    have I2 : Inv X pins σ H1 { s1 with heap := h' } := I1.kept (t' := s1.toks) hk
    refine ⟨s1.heap.objs.size + 1, [s1.heap.objs.size + 1, s1.heap.objs.size], _, _, H1, rfl, I2, turn_enumT a (s1.heap.objs.size + 1) s1.heap.objs.size (Nat.ne_of_lt (Nat.lt_succ_of_lt la)) (Nat.ne_of_lt la), ⟨⟨.none, he⟩, ⟨_, hit, rfl, rfl⟩, Nat.succ_ne_self _⟩, fun b hb => ?_, q⟩
    have e' : b = s1.heap.objs.size + 1 ∨ b = s1.heap.objs.size := by simpa using hb
    have hle : s1.heap.objs.size ≤ b := by
      rcases e' with z | z
      · rw [z]; exact Nat.le_add_right _ _
      · rw [z]; exact Nat.le_refl _
    exact I1.fpOk hle (I1.hok.fresh hle)
/-- a loop over enumerate of a tuple -/
theorem for_enumT {K : PySem.W.Frag} {a : Addr} {xs : List V} {g : TG} {tb : TS} {D : Ends} {σ : L2.St} {H : Hp} (Pv : Nat → L2.St → Hp → Prop) (h0 : Pv 0 σ H) (hq : ∀ i σ H, Pv i σ H → SqT K H a xs)
    (hs : ∀ (i : Nat) (x : V) (T : Addr) (σ : L2.St) (H : Hp), xs[i]? = some x → Pv i σ H → H T = none → g (.ref T) σ (upd H T (.tup [.int (i : Nat), x])) fun σ2 H2 => tb { D with nx := Pv (i + 1), ct := Pv (i + 1), bk := D.nx } σ2 H2) (hd : ∀ σ H, Pv xs.length σ H → D.nx σ H) :
    ∃ W : Nat → Nat → L2.St → Hp → Prop, (∃ m, W 0 m σ H) ∧ ∀ i m σ H, W i m σ H →
      ((IteT K a).stop i H ∧ D.nx σ H) ∨ ((IteT K a).go i H ∧ ∃ N : L2.St → Hp → Prop, (∀ σ' H', N σ' H' → ∃ m', m' < m ∧ W (i + 1) m' σ' H') ∧ ∀ v H', (IteT K a).yld i H v H' → g v σ H' fun σ2 H2 => tb { D with nx := N, ct := N, bk := D.nx } σ2 H2) := by
  refine ⟨fun i m σ H => m = xs.length - i ∧ i ≤ xs.length ∧ Pv i σ H, ⟨xs.length, rfl, Nat.zero_le _, h0⟩, ?_⟩
  rintro i m σ H ⟨rfl, hi, p⟩
  have qx := hq i σ H p
  by_cases hlt : i < xs.length
  · have hx : xs[i]? = some xs[i] := List.getElem?_eq_getElem hlt
    refine .inr ⟨⟨xs, _, qx, hx⟩, Pv (i + 1), fun σ' H' p' => ⟨xs.length - (i + 1), by omega, rfl, hlt, p'⟩, fun v H' y => ?_⟩
    obtain ⟨T, x', rfl, hT, rfl, f1⟩ := y
    exact hs i x' T σ H (f1 xs qx) p hT
  · have e : i = xs.length := by omega
    subst e
    exact .inl ⟨⟨xs, qx, rfl⟩, hd σ H p⟩
end Wq
set_option Elab.async false
set_option linter.all false
set_option maxRecDepth 100000
set_option maxHeartbeats 4000000
namespace Wq
open PySem PySem.Spec PyProof.Rows L2
/-! ## zip of three tuples -/
def Itz3 (K : PySem.W.Frag) (a b c : Addr) : It :=
  ⟨fun i H => ∃ (xs ys zs : List V) (x y z : V), SqT K H a xs ∧ SqT K H b ys ∧ SqT K H c zs ∧ xs[i]? = some x ∧ ys[i]? = some y ∧ zs[i]? = some z,
    fun i H v H' => ∃ T x y z, v = .ref T ∧ H T = none ∧ H' = upd H T (.tup [x, y, z]) ∧ (∀ xs, SqT K H a xs → xs[i]? = some x) ∧ (∀ ys, SqT K H b ys → ys[i]? = some y) ∧ ∀ zs, SqT K H c zs → zs[i]? = some z,
    fun i H => ∃ xs ys zs : List V, SqT K H a xs ∧ SqT K H b ys ∧ SqT K H c zs ∧ xs.length = i ∧ ys.length = i ∧ zs.length = i⟩
structure Apart3 (n a b c : Nat) : Prop where
  a : a < n
  b : b < n
  c : c < n
theorem nm2 {x p q : Nat} (h1 : x ≠ p) (h2 : x ≠ q) : (x : Addr) ∉ ([p, q] : List Addr) := fun z => by
  rcases List.mem_cons.mp z with z | z
  · exact h1 z
  · exact h2 (List.mem_singleton.mp z)
theorem neA {x p : Nat} (h : x ≠ p) : (x : Addr) ≠ p := h
theorem sep3 {n a b c : Nat} (h : Apart3 n a b c) : ZipSep3 (n + 5) (n + 3) (n + 4) n (n + 1) (n + 2) [n, a] [n + 1, b] [n + 2, c] := by
  obtain ⟨ha, hb, hc⟩ := h
  constructor <;> first | exact List.mem_cons_self | (refine neA ?_; omega) | (refine nm2 ?_ ?_ <;> omega)
theorem ne_k {n a k : Nat} (h : a < n) : a ≠ n + k := by omega
theorem turn_zip3T {P : Program} {w : World} {K : PySem.W.Frag} {elts : List Expr} {kk : Nat} {tpos : Pos} {a b c n : Addr} (Ap : Apart3 n a b c) :
    Turn P w K (.Tuple elts kk tpos) (Itz3 K a b c) [n + 5, n + 3, n + 4, n, n + 1, n + 2] (n + 5) (fun i h => IsZip h (n + 5) (n + 3) (n + 4) .none ∧ IsTupOf3 h (n + 3) (.ref n) (.ref (n + 1)) (.ref (n + 2)) ∧ (∃ x y z, IsTupOf3 h (n + 4) x y z) ∧ h.IsTupleIter n a i ∧ h.IsTupleIter (n + 1) b i ∧ h.IsTupleIter (n + 2) c i) where
  mem := by simp
  obj := fun i h st d hd => by
    obtain ⟨hz, hTI, ⟨x, y, z, hTO⟩, ⟨o1, e1, _, d1⟩, ⟨o2, e2, _, d2⟩, ⟨o3, e3, _, d3⟩⟩ := st
    have e' : d = n + 5 ∨ d = n + 3 ∨ d = n + 4 ∨ d = n ∨ d = n + 1 ∨ d = n + 2 := by simpa using hd
    rcases e' with q | q | q | q | q | q
    · rw [q]; exact ⟨_, hz, fun v q => nomatch q⟩
    · rw [q]; exact ⟨_, hTI, fun v q => nomatch q⟩
    · rw [q]; exact ⟨_, hTO, fun v q => nomatch q⟩
    · rw [q]; exact ⟨o1, e1, fun v q => by rw [d1] at q; cases q⟩
    · rw [q]; exact ⟨o2, e2, fun v q => by rw [d2] at q; cases q⟩
    · rw [q]; exact ⟨o3, e3, fun v q => by rw [d3] at q; cases q⟩
  keep := fun i h h' st k => by
    obtain ⟨hz, hTI, ⟨x, y, z, hTO⟩, h1, h2, h3⟩ := st
    exact ⟨k _ (by simp) _ hz, k _ (by simp) _ hTI, ⟨x, y, z, k _ (by simp) _ hTO⟩, h1.at fun o q => k n (by simp) o q, h2.at fun o q => k (n + 1) (by simp) o q, h3.at fun o q => k (n + 2) (by simp) o q⟩
  item := by
    intro X hP hw hK hc i pins s σ H E I hf st hg
    subst hP hw hK
    obtain ⟨hz, hTI, ⟨x0, y0, z0, hTO⟩, h1, h2, h3⟩ := st
    obtain ⟨xs, ys, zs, x, y, z, hqx, hqy, hqz, hx, hy, hzz⟩ := hg
    obtain ⟨its, rv, p, _⟩ := I.tuple hqx
    obtain ⟨its2, rv2, p2, _⟩ := I.tuple hqy
    obtain ⟨its3, rv3, p3, _⟩ := I.tuple hqz
    obtain ⟨u, hu, ru⟩ := rv.get hx
    obtain ⟨u2, hu2, ru2⟩ := rv2.get hy
    obtain ⟨u3, hu3, ru3⟩ := rv3.get hzz
    have hu : its.toArray[i]? = some u := by simpa using hu
    have hu2 : its2.toArray[i]? = some u2 := by simpa using hu2
    have hu3 : its3.toArray[i]? = some u3 := by simpa using hu3
    have hzl : n + 5 < s.heap.objs.size := Heap.lt_size hz
    have hh : X.A.in1.handled = none := I.ok.hd hc
    have na : a ≠ n := Nat.ne_of_lt Ap.a
    have nb : b ≠ n + 1 := ne_k Ap.b
    have nc : c ≠ n + 2 := ne_k Ap.c
    refine wpAny_pyNext_zipD3_item (sep3 Ap) (Draws.tuple (prog := X.prog) (w := X.w) (A := X.A.in1) hh n a na its.toArray) (Draws.tuple (prog := X.prog) (w := X.w) (A := X.A.in1) hh (n + 1) b nb its2.toArray) (Draws.tuple (prog := X.prog) (w := X.w) (A := X.A.in1) hh (n + 2) c nc its3.toArray)
      hz hTI hTO ⟨h1, p⟩ ⟨h2, p2⟩ ⟨h3, p3⟩ (Array.getElem?_eq_some_iff.mp hu).1 (Array.getElem?_eq_some_iff.mp hu2).1 (Array.getElem?_eq_some_iff.mp hu3).1 fun v1 v2 v3 h' tk q1 q2 q3 z' TO' h1' h2' h3' hT hsz hk => ?_
    have ev1 : v1 = u := Option.some.inj ((show its.toArray[i]? = some v1 from q1).symm.trans hu)
    have ev2 : v2 = u2 := Option.some.inj ((show its2.toArray[i]? = some v2 from q2).symm.trans hu2)
    have ev3 : v3 = u3 := Option.some.inj ((show its3.toArray[i]? = some v3 from q3).symm.trans hu3)
    subst ev1 ev2 ev3
    refine ⟨_, rfl, wpAny_letOwnedTupleGo_zip (s := { s with heap := h', toks := tk }) z' fun h'' z'' sb => ?_⟩
    have hT2 : h''.get? s.heap.objs.size = some { cls := .type "tuple", data := .seq #[v1, v2, v3] } := (sb.2 _ (Nat.ne_of_gt hzl)).trans hT
    have new : ObjOk X.prog X.w (upd H s.heap.objs.size (.tup [x, y, z])) h'' s.heap.objs.size (.tup [x, y, z]) :=
      ⟨by show 3 ≤ sizeLine; decide, [v1, v2, v3], .cons ru (.cons ru2 (.cons ru3 .nil)), ⟨_, hT2, rfl, _, rfl⟩⟩
    have I1 : Inv X pins σ (upd H s.heap.objs.size (.tup [x, y, z])) { s with heap := h'', toks := tk } :=
      I.turnedNew (t' := tk) (ch := [n + 5, n + 3, n + 4, n, n + 1, n + 2]) (fun d o hb q => (sb.2 d (fun q' => hb (by simp [q']))).trans (hk d o (fun q' => hb (by simp [q'])) (fun q' => hb (by simp [q'])) (fun q' => hb (by simp [q'])) (fun q' => hb (by simp [q'])) (fun q' => hb (by simp [q'])) q)) hf (Nat.le_refl _) new
    have S := sep3 Ap
    refine ⟨.ref s.heap.objs.size, _, I1, rfl, ⟨_, x, y, z, rfl, I.hok.fresh (Nat.le_refl _), rfl, fun l hl => by rw [I.tuple_inj hl hqx]; exact hx, fun l hl => by rw [I.tuple_inj hl hqy]; exact hy, fun l hl => by rw [I.tuple_inj hl hqz]; exact hzz⟩, ⟨z'', ?_, ⟨v1, v2, v3, ?_⟩, ?_, ?_, ?_⟩, fun d hcm => ?_⟩
    · exact (sb.2 _ S.TIz).trans (hk _ _ S.TIz S.TITO S.TIi1 S.TIi2 S.TIi3 hTI)
    · exact (sb.2 _ S.TOz).trans TO'
    · exact h1'.1.at fun o q => (sb.2 _ (Ne.symm S.zi1)).trans q
    · exact h2'.1.at fun o q => (sb.2 _ (Ne.symm S.zi2)).trans q
    · exact h3'.1.at fun o q => (sb.2 _ (Ne.symm S.zi3)).trans q
    · have hlt : d < s.heap.objs.size := by
        have e' : d = n + 5 ∨ d = n + 3 ∨ d = n + 4 ∨ d = n ∨ d = n + 1 ∨ d = n + 2 := by simpa using hcm
        have hzl2 : (n : Nat) + 5 < s.heap.objs.size := hzl
        rcases e' with q | q | q | q | q | q <;> (rw [q]; first | exact hzl | exact Nat.lt_of_le_of_lt (Nat.add_le_add_left (by decide) n) hzl2 | exact Nat.lt_of_le_of_lt (Nat.le_add_right n 5) hzl2)
      rw [upd_ne (Nat.ne_of_lt hlt)]
      exact (hf d hcm).1
  done := by
    intro X hP hw hK hc i pins s σ H E I hf st hg
    subst hP hw hK
    obtain ⟨hz, hTI, ⟨x0, y0, z0, hTO⟩, h1, h2, h3⟩ := st
    obtain ⟨xs, ys, zs, hqx, hqy, hqz, e1, e2, e3⟩ := hg
    obtain ⟨its, rv, p, _⟩ := I.tuple hqx
    obtain ⟨its2, rv2, p2, _⟩ := I.tuple hqy
    obtain ⟨its3, rv3, p3, _⟩ := I.tuple hqz
    have l1 := rv.length
    have l2 := rv2.length
    have l3 := rv3.length
    have hh : X.A.in1.handled = none := I.ok.hd hc
    have na : a ≠ n := Nat.ne_of_lt Ap.a
    have nb : b ≠ n + 1 := ne_k Ap.b
    have nc : c ≠ n + 2 := ne_k Ap.c
    have s1 : i = its.toArray.size := by rw [List.size_toArray]; omega
    have s2 : i = its2.toArray.size := by rw [List.size_toArray]; omega
    have s3 : i = its3.toArray.size := by rw [List.size_toArray]; omega
    exact wpAny_pyNext_zipD3_end (i := i) (sep3 Ap) (Draws.tuple (prog := X.prog) (w := X.w) (A := X.A.in1) hh n a na its.toArray) (Draws.tuple (prog := X.prog) (w := X.w) (A := X.A.in1) hh (n + 1) b nb its2.toArray) (Draws.tuple (prog := X.prog) (w := X.w) (A := X.A.in1) hh (n + 2) c nc its3.toArray)
      hz hTI hTO ⟨h1, p⟩ ⟨h2, p2⟩ ⟨h3, p3⟩ (Nat.le_of_eq s1) (Nat.le_of_eq s2) (Nat.le_of_eq s3) (.inl s1) fun h' tk hk => ⟨rfl, I.turnedL (t' := tk) (ch := [n + 5, n + 3, n + 4, n, n + 1, n + 2]) (fun d o hb q =>
      hk d o (fun q' => hb (by simp [q'])) (fun q' => hb (by simp [q'])) (fun q' => hb (by simp [q'])) (fun q' => hb (by simp [q'])) (fun q' => hb (by simp [q'])) q) hf⟩
  self := fun A i s Q E st h => wpAny_pyIter_zip st.1 h
def iZip3 (K : PySem.W.Frag) (ta : TA) : TI := fun σ H R => ta σ H fun vs H1 => ∃ a b c xs ys zs, vs = [.ref a, .ref b, .ref c] ∧ SqT K H1 a xs ∧ SqT K H1 b ys ∧ SqT K H1 c zs ∧ R (Itz3 K a b c) H1
theorem pi_zip3T {X : Cx} {e e2 e3 : Expr} {ta : TA} {p pos tpos : Pos} {elts : List Expr} {kk : Nat} (hg : Gl X "zip") (hm : X.mg "zip" = none) (ha : PA X [e, e2, e3] ta)
    (hs : starEach [e, e2, e3] X.env = (false, eval e X.env) :: starEach [e2, e3] X.env := by rfl) (hpl : (backTo pos (starEach [e2, e3] X.env)).any (·.1) = false := by rfl) :
    PI X (.Tuple elts kk tpos) (.Call (.Name "zip" p) [e, e2, e3] [] pos) (iZip3 X.K ta) := by
  refine ⟨fun pins s σ H R I h => ?_⟩
  refine Call_ (ld_blt I hg hm PyProof.Rows.boot_zip (PyProof.Rows.callWith_type1 (thn (ha.run pos pins s σ H _ I h) fun us s1 ⟨vs, H1, I1, r1, q1⟩ => ?_) hs hpl))
  obtain ⟨a, b, c, xs, ys, zs, ex, hqx, hqy, hqz, q⟩ := q1
  subst ex
  cases r1 with
  | cons r rr =>
    cases rr with
    | cons r' rr =>
      cases rr with
      | cons r'' rr =>
        cases rr
        cases r
        cases r'
        cases r''
        obtain ⟨its, rv, p1, _⟩ := I1.tuple hqx
        obtain ⟨its2, rv2, p2, _⟩ := I1.tuple hqy
        obtain ⟨its3, rv3, p3, _⟩ := I1.tuple hqz
        obtain ⟨o1, ho1, _⟩ := id p1
        obtain ⟨o2, ho2, _⟩ := id p2
        obtain ⟨o3, ho3, _⟩ := id p3
        refine zip_begins3 (begins_tuple a its.toArray) (begins_tuple b its2.toArray) (begins_tuple c its3.toArray) p1 p2 p3 fun h' hz hTI hTO g1 g2 g3 hsz hk => wpAny_pyIter_zip hz ?_
        have I2 : Inv X pins σ H1 { s1 with heap := h' } := I1.kept (t' := s1.toks) hk
        refine ⟨s1.heap.objs.size + 5, [s1.heap.objs.size + 5, s1.heap.objs.size + 3, s1.heap.objs.size + 4, s1.heap.objs.size, s1.heap.objs.size + 1, s1.heap.objs.size + 2], _, _, H1, rfl, I2, turn_zip3T ⟨Heap.lt_size ho1, Heap.lt_size ho2, Heap.lt_size ho3⟩, ⟨hz, hTI, ⟨_, _, _, hTO⟩, ⟨_, g1, rfl, rfl⟩, ⟨_, g2, rfl, rfl⟩, ⟨_, g3, rfl, rfl⟩⟩, fun d hcm => ?_, q⟩
        have e' : d = s1.heap.objs.size + 5 ∨ d = s1.heap.objs.size + 3 ∨ d = s1.heap.objs.size + 4 ∨ d = s1.heap.objs.size ∨ d = s1.heap.objs.size + 1 ∨ d = s1.heap.objs.size + 2 := by simpa using hcm
        have hle : s1.heap.objs.size ≤ d := by
          rcases e' with z | z | z | z | z | z
          · rw [z]; exact Nat.le_add_right _ _
          · rw [z]; exact Nat.le_add_right _ _
          · rw [z]; exact Nat.le_add_right _ _
          · rw [z]; exact Nat.le_refl _
          · rw [z]; exact Nat.le_add_right _ _
          · rw [z]; exact Nat.le_add_right _ _
        exact I1.fpOk hle (I1.hok.fresh hle)
end Wq
set_option Elab.async false
set_option linter.all false
set_option maxRecDepth 100000
set_option maxHeartbeats 4000000
namespace Wq
open PySem PySem.Spec PyProof.Rows L2
def top (i : Nat) : Stmt := PySem.Challenge.pw_waypairs_k49_meetings.main.body.getD i (.Pass ⟨0, 0, 0, 0⟩)
/-! ## heaps -/
theorem same_new {H : Hp} {D : Addr} {o : HO} (h : H D = none) : Same H (upd H D o) := fun b u e => by
  rw [upd_ne (ne_of_none e h)]
  exact e
theorem Same.refl (H : Hp) : Same H H := fun _ _ e => e
theorem Same.trans {H H1 H2 : Hp} (a : Same H H1) (b : Same H1 H2) : Same H H2 := fun c o e => b c o (a c o e)
/-- all but what stands at p is as before -/
def But (p : Addr) (H H' : Hp) : Prop := ∀ b o, b ≠ p → H b = some o → H' b = some o
/-- the source at p: three ints, few turns -/
def Sc (p : Addr) (n : Nat) (H : Hp) : Prop := ∃ a b c : Int, H p = some (.lst [.int a, .int b, .int c]) ∧ 0 ≤ b ∧ b < 999983 ∧ 0 ≤ c ∧ c ≤ n
/-- from H to H' the source was drawn from, and things were made -/
structure Gs (p : Addr) (n : Nat) (H H' : Hp) : Prop where
  but : But p H H'
  sc : Sc p n H'
theorem Sc.le {p : Addr} {n m : Nat} {H : Hp} (h : Sc p n H) (l : n ≤ m) : Sc p m H := by
  obtain ⟨a, b, c, e, h1, h2, h3, h4⟩ := h
  exact ⟨a, b, c, e, h1, h2, h3, by omega⟩
theorem Sc.same {p : Addr} {n : Nat} {H H' : Hp} (h : Sc p n H) (s : Same H H') : Sc p n H' := by
  obtain ⟨a, b, c, e, r⟩ := h
  exact ⟨a, b, c, s _ _ e, r⟩
theorem Sc.at {p : Addr} {n : Nat} {H H' : Hp} (h : Sc p n H) (s : ∀ o, H p = some o → H' p = some o) : Sc p n H' := by
  obtain ⟨a, b, c, e, r⟩ := h
  exact ⟨a, b, c, s _ e, r⟩
theorem But.refl (p : Addr) (H : Hp) : But p H H := fun _ _ _ e => e
theorem But.trans {p : Addr} {H H1 H2 : Hp} (a : But p H H1) (b : But p H1 H2) : But p H H2 := fun c o n e => b c o n (a c o n e)
theorem But.of {p : Addr} {H H1 : Hp} (a : Same H H1) : But p H H1 := fun c o _ e => a c o e
theorem Gs.refl {p : Addr} {n : Nat} {H : Hp} (h : Sc p n H) : Gs p n H H := ⟨But.refl p H, h⟩
theorem Gs.trans {p : Addr} {n m : Nat} {H H1 H2 : Hp} (a : Gs p n H H1) (b : Gs p m H1 H2) : Gs p m H H2 := ⟨a.but.trans b.but, b.sc⟩
theorem Gs.same {p : Addr} {n : Nat} {H H1 H2 : Hp} (a : Gs p n H H1) (b : Same H1 H2) : Gs p n H H2 := ⟨a.but.trans (But.of b), a.sc.same b⟩
theorem Gs.new {p q : Addr} {n : Nat} {H H1 : Hp} {o : HO} (a : Gs p n H H1) (b : H1 q = none) : Gs p n H (upd H1 q o) := a.same (same_new b)
theorem Gs.le {p : Addr} {n m : Nat} {H H1 : Hp} (a : Gs p n H H1) (l : n ≤ m) : Gs p m H H1 := ⟨a.but, a.sc.le l⟩
/-- a thing of another shape is no source -/
theorem Sc.ne {p q : Addr} {n : Nat} {H : Hp} {o : HO} (h : Sc p n H) (e : H q = some o) (z : ∀ a b c : Int, o ≠ .lst [.int a, .int b, .int c]) : q ≠ p := by
  obtain ⟨a, b, c, e2, _⟩ := h
  exact ne_of e e2 (z a b c)
theorem Gs.tup {K : PySem.W.Frag} {p q : Addr} {n m : Nat} {H H' : Hp} {xs : List V} (g : Gs p m H H') (h : Sc p n H) (e : SqT K H q xs) : SqT K H' q xs := by
  rcases e with (e | ⟨o, e⟩) | e
  · exact .inl (.inl (g.but _ _ (h.ne e (by intro a b c z; cases z)) e))
  · exact .inl (.inr ⟨o, g.but _ _ (h.ne e (by intro a b c z; cases z)) e⟩)
  · exact .inr e
/-- a new thing filled anew: what stood before H1 goes on -/
theorem Gs.over {p D : Addr} {n : Nat} {H0 H : Hp} {o : HO} (g : Gs p n H0 H) (e : H0 D = none) (nd : D ≠ p) : Gs p n H0 (upd H D o) := by
  refine ⟨fun b u nb q => ?_, g.sc.at fun u q => ?_⟩
  · rw [upd_ne (ne_of_none q e)]
    exact g.but b u nb q
  · rw [upd_ne (Ne.symm nd)]
    exact q
/-! ## draw -/
abbrev sDraw : Stmt := top 5
def spDraw : Sp := fun vs H Q _ => ∃ (p : Addr) (m : Int) (n : Nat), vs = [.ref p, .int m] ∧ Sc p n H ∧ n ≤ 100000 ∧ 0 < m ∧ m ≤ 1000 ∧ ∀ (k : Int) H', 0 ≤ k → k < m → Gs p (n + 1) H H' → Q (.int k) H'
structure Bn (mg : Str → Option Value) : Prop where
  int : mg "int" = none
  len : mg "len" = none
  abs : mg "abs" = none
  range : mg "range" = none
  tuple : mg "tuple" = none
  max : mg "max" = none
  min : mg "min" = none
  zip : mg "zip" = none
  enumerate : mg "enumerate" = none
  isinstance : mg "isinstance" = none
  bool : mg "bool" = none
structure Known (P : Program) (w : World) (K : PySem.W.Frag) (mg : Str → Option Value) (base : Heap) (CX : CXT) (k : Nat) (x : Str) (ps : List Str) (sp : Sp) (f : Addr) (fd : FuncData) : Prop where
  ok : FnOk P w K mg base CX k f fd ps sp
  mg : mg x = some (.ref f)
  kp : PySem.W.keepIn K (.ref f) = true
  bi : Binds K fd ps []
theorem mod7 {x b : Int} (hb : 0 < b) : 0 ≤ x % b ∧ x % b < b := ⟨Int.emod_nonneg _ (by omega), Int.emod_lt_of_pos _ hb⟩
section
variable {P : Program} {w : World} {K : PySem.W.Frag} {mg : Str → Option Value} {base : Heap}
theorem scDraw : FnScope ["_law_source_here", "_law_many", "_law_digit", "_law_turn"] ["_law_source_here", "_law_many"] (defScope sDraw) := ⟨rfl, rfl, rfl, by decide +kernel, rfl, by decide +kernel, by decide +kernel⟩
theorem ok_draw {f : Addr} {fd : FuncData} (F : Fun K "_law_draw" "_law_draw" sDraw f fd) (B : Bn mg) : FnOk P w K mg base CX0 1 f fd ["_law_source_here", "_law_many"] spDraw := by
  refine F.ok scDraw (fun vs H Q E h => ?_) (fun cdv A outer s H vs Q E hr h => ?_)
  · obtain ⟨p, m, n, rfl, _⟩ := h
    rfl
  · obtain ⟨p, m, n, rfl, ⟨a, b, c, hp, b0, b1, c0, c1⟩, few, m0, m1, k⟩ := h
    refine ⟨_, pss_cons (ps_if (pt_cmpR op_gt (pe_ix ix_list (pv 0) pe_int (fun _ _ => rfl)) pe_int (nomark _))
        (pss_cons (ps_set (i := 2) scDraw.nd rfl (.inl rfl) (pe_op op_mod (pe_callTy call_int1 (by rfl) B.int PyProof.Rows.boot_int (pa_cons (pe_ix ix_list (pv 0) pe_int (fun _ _ => rfl)) pa_nil)) (pv 1)))
        (pss_cons (ps_asg (pe_op op_fdivN (pe_ix ix_list (pv 0) pe_int (fun _ _ => rfl)) (pv 1)) (pg_sub (pv 0) pe_int set_list))
        (pss_one (ps_ret (pv 2)))))
        pss_nil)
      (pss_cons (ps_asg (pe_op op_add (pe_ix ix_list (pv 0) pe_int (fun _ _ => rfl)) pe_int) (pg_sub (pv 0) pe_int set_list))
      (pss_cons (ps_set (i := 3) scDraw.nd rfl (.inl rfl) (pe_ix ix_list (pv 0) pe_int (fun _ _ => rfl)))
      (pss_cons (ps_asg (pe_op op_mod (pe_callTy call_int1 (by rfl) B.int PyProof.Rows.boot_int (pa_cons (pe_op op_add (pe_op op_mul (pe_op op_add (pe_ix ix_list (pv 0) pe_int (fun _ _ => rfl)) (pe_op op_mul pe_int (pv 3))) (pe_op op_add (pe_op op_add (pe_ix ix_list (pv 0) pe_int (fun _ _ => rfl)) (pe_op op_mul pe_int (pv 3))) pe_int)) (pe_op op_mul pe_int (pv 3))) pa_nil)) pe_int) (pg_sub (pv 0) pe_int set_list))
      (pss_one (ps_ret (pe_op op_mod (pe_callTy call_int1 (by rfl) B.int PyProof.Rows.boot_int (pa_cons (pe_op op_fdiv (pe_ix ix_list (pv 0) pe_int (fun _ _ => rfl)) pe_int) pa_nil)) (pv 1))))))), ?_⟩
    refine ⟨_, rfl, p, _, _, _, rfl, rfl, SqL.of hp, atI_nat (j := 0) rfl, _, _, rfl, rfl, _, rfl, ?_⟩
    refine ite2 (fun _ => ?_) (fun _ => ?_)
    · refine ⟨_, rfl, p, _, _, _, rfl, rfl, SqL.of hp, atI_nat (j := 0) rfl, .inl ⟨_, rfl, _, rfl, _, _, rfl, rfl, m0, ?_⟩⟩
      refine ⟨_, rfl, p, _, _, _, rfl, rfl, SqL.of hp, atI_nat (j := 0) rfl, _, rfl, _, _, rfl, rfl, ⟨by omega, by omega⟩, _, rfl, p, _, _, 0, rfl, rfl, hp, rfl, ?_⟩
      refine ⟨_, rfl, k _ _ (mod7 m0).1 (mod7 m0).2 ⟨fun b o nb e => ?_, _, _, _, upd_same, b0, b1, c0, by omega⟩⟩
      rw [upd_ne nb]
      exact e
    · refine ⟨_, rfl, p, _, _, _, rfl, rfl, SqL.of hp, atI_nat (j := 2) rfl, _, _, rfl, rfl, _, rfl, p, _, _, 2, rfl, rfl, hp, rfl, ?_⟩
      refine ⟨_, rfl, p, _, _, _, rfl, rfl, SqL.of upd_same, atI_nat (j := 2) rfl, ?_⟩
      refine ⟨_, rfl, p, _, _, _, rfl, rfl, SqL.of upd_same, atI_nat (j := 1) rfl, _, rfl, _, _, rfl, rfl, .inl ⟨by decide, by decide⟩, _, _, rfl, rfl, ?_⟩
      refine ⟨_, rfl, p, _, _, _, rfl, rfl, SqL.of upd_same, atI_nat (j := 1) rfl, _, rfl, _, _, rfl, rfl, .inl ⟨by decide, by decide⟩, _, _, rfl, rfl, _, _, rfl, rfl, _, _, rfl, rfl, .inl ⟨by omega, by omega⟩, ?_⟩
      refine ⟨_, rfl, _, _, rfl, rfl, .inl ⟨by decide, by decide⟩, _, _, rfl, rfl, .inl ⟨_, rfl, _, _, rfl, rfl, (by show (0 : Int) < 999983; decide), _, rfl, p, _, _, 1, rfl, rfl, upd_same, rfl, ?_⟩⟩
      refine ⟨_, rfl, p, _, _, _, rfl, rfl, SqL.of upd_same, atI_nat (j := 1) rfl, _, _, rfl, rfl, ⟨by decide, by decide⟩, .inl ⟨_, rfl, _, rfl, _, _, rfl, rfl, m0, ?_⟩⟩
      refine k _ _ (mod7 m0).1 (mod7 m0).2 ⟨fun b o nb e => ?_, _, _, _, upd_same, (mod7 (by decide)).1, (mod7 (by decide)).2, by omega, by omega⟩
      rw [upd_ne nb, upd_ne nb]
      exact e
/-! ## one of some -/
abbrev sOf : Stmt := top 6
def spOf (K : PySem.W.Frag) : Sp := fun vs H Q _ => ∃ (p q : Addr) (n : Nat) (xs : List V), vs = [.ref p, .ref q] ∧ Sc p n H ∧ n ≤ 100000 ∧ SqL K H q xs ∧ q ≠ p ∧ 0 < xs.length ∧ xs.length ≤ 1000 ∧ ∀ x H', x ∈ xs → Gs p (n + 1) H H' → Q x H'
theorem scOf : FnScope ["_law_source_here", "_law_some"] ["_law_source_here", "_law_some"] (defScope sOf) := ⟨rfl, rfl, rfl, by decide +kernel, rfl, by decide +kernel, by decide +kernel⟩
theorem sqL_at {K : PySem.W.Frag} {H H' : Hp} {q : Addr} {xs : List V} (h : SqL K H q xs) (k : ∀ o, H q = some o → H' q = some o) : SqL K H' q xs := by
  rcases h with (h | ⟨o, h⟩) | h
  · exact .inl (.inl (k _ h))
  · exact .inl (.inr ⟨o, k _ h⟩)
  · exact .inr h
theorem ok_of {f fD : Addr} {fd fdD : FuncData} (F : Fun K "_law_of" "_law_of" sOf f fd) (B : Bn mg) (D : Known P w K mg base CX0 1 "_law_draw" ["_law_source_here", "_law_many"] spDraw fD fdD) : FnOk P w K mg base CX0 2 f fd ["_law_source_here", "_law_some"] (spOf K) := by
  refine F.ok scOf (fun vs H Q E h => ?_) (fun cdv A outer s H vs Q E hr h => ?_)
  · obtain ⟨p, q, n, xs, rfl, _⟩ := h
    rfl
  · obtain ⟨p, q, n, xs, rfl, S, few, hq, nq, l0, l1, k⟩ := h
    refine ⟨_, pss_one (ps_ret (pe_ix ix_list (pv 1) (pe_call D.ok (hr.mono (by decide)) rfl D.mg D.kp D.bi .nil pass0 (pa_cons (pv 0) (pa_cons (pe_callB call_len_seq (by rfl) B.len PySem.boot_len (pa_cons (pv 1) pa_nil)) pa_nil))) (fun _ _ => rfl))), ?_⟩
    refine ⟨_, rfl, _, rfl, _, rfl, q, _, rfl, .inl hq, p, (xs.length : Int), n, rfl, S, few, by omega, by omega, fun v H' v0 v1 g => ?_⟩
    obtain ⟨j, rfl⟩ := Int.eq_ofNat_of_zero_le v0
    have hj : j < xs.length := by omega
    have hx : xs[j]? = some xs[j] := List.getElem?_eq_getElem hj
    exact ⟨q, _, _, _, rfl, rfl, sqL_at hq (fun o e => g.but _ _ nq e), atI_nat hx, k _ _ (List.getElem_mem hj) g⟩
end
end Wq
set_option Elab.async false
set_option linter.all false
set_option maxRecDepth 100000
set_option maxHeartbeats 4000000
namespace Wq
open PySem PySem.Spec PyProof.Rows L2
/-! ## the source made -/
abbrev sSource : Stmt := top 4
def spSource (K : PySem.W.Frag) : Sp := fun vs H Q _ => ∃ (s : Addr) (ns : List Int) (pl : Int), vs = [.ref s, .int pl] ∧ SqL K H s (ns.map V.int) ∧ ns.length ≤ 63 ∧ 0 ≤ pl ∧ ∀ p H', Same H H' → H p = none → Sc p 0 H' → Q (.ref p) H'
theorem ne_of_none_r {p D : Addr} {n : Nat} {H : Hp} (S : Sc p n H) (h : H D = none) : D ≠ p := by
  obtain ⟨a, b, c, e, _⟩ := S
  exact Ne.symm (ne_of_none e h)
section
variable {P : Program} {w : World} {K : PySem.W.Frag} {mg : Str → Option Value} {base : Heap}
theorem scSource : FnScope ["_law_script", "_law_place", "_law_cell", "_law_size"] ["_law_script", "_law_place"] (defScope sSource) := ⟨rfl, rfl, rfl, by decide +kernel, rfl, by decide +kernel, by decide +kernel⟩
theorem ok_source {f : Addr} {fd : FuncData} (F : Fun K "_law_source" "_law_source" sSource f fd) (B : Bn mg) : FnOk P w K mg base CX0 1 f fd ["_law_script", "_law_place"] (spSource K) := by
  refine F.ok scSource (fun vs H Q E h => ?_) (fun cdv A outer s H vs Q E hr h => ?_)
  · obtain ⟨p, ns, pl, rfl, _⟩ := h
    rfl
  · obtain ⟨p, ns, pl, rfl, hS, few, p0, k⟩ := h
    obtain ⟨tC, hC, qC⟩ : ∃ t, PSs (cxOf CX0 P w K mg base ["_law_script", "_law_place", "_law_cell", "_law_size"] "_law_source" (defScope sSource) f cdv A outer s H E).nox ((defBody sSource).drop 1) t ∧
        ∀ (cell : Int), t { nx := fun _ H' => Q .non H', rt := Q } [some (.ref p), some (.int pl), some (.int cell), none] H := by
      refine ⟨_, pss_cons (ps_set (i := 3) scSource.nd rfl (.inl rfl) (pe_callB call_abs (by rfl) B.abs (by decide +kernel) (pa_cons (pe_callTy call_int1 (by rfl) B.int PyProof.Rows.boot_int (pa_cons (pv 2) pa_nil)) pa_nil)))
        (pss_one (ps_ret (pe_lst (pa_cons (pe_ifExp (pt_cmpR op_ge (pv 3) (pe_op op_pow pe_int pe_int) (nomark _)) (pv 3) pe_int)
          (pa_cons (pe_op op_mod (pe_callTy call_int1 (by rfl) B.int PyProof.Rows.boot_int (pa_cons (pe_op op_add (pe_op op_add (pe_op op_add (pe_op op_mul (pv 3) pe_int) (pe_op op_mul pe_int (pv 1))) pe_int) (pe_callTy call_int1 (by rfl) B.int PyProof.Rows.boot_int (pa_cons (pe_cmpR op_lt (pv 2) pe_int (nomark _)) pa_nil))) pa_nil)) pe_int)
          (pa_cons pe_int pa_nil)))))), ?_⟩
      intro cell
      refine ⟨_, rfl, .inl ⟨_, rfl, _, rfl, ?_⟩⟩
      refine ⟨_, rfl, _, _, rfl, rfl, ⟨by decide, by decide, by decide⟩, _, _, rfl, rfl, _, rfl, ?_⟩
      refine ite2 (fun _ => ⟨_, rfl, ?_⟩) (fun _ => ?_)
      all_goals
        refine ⟨_, rfl, _, _, rfl, rfl, .inr (by decide), _, rfl, _, _, rfl, rfl, .inl ⟨by decide, by decide⟩, _, _, rfl, rfl, _, _, rfl, rfl, ?_⟩
        refine ⟨_, rfl, _, _, rfl, rfl, .inr ⟨_, rfl, _, _, rfl, rfl, .inl ⟨_, rfl, _, _, rfl, rfl, (by show (0 : Int) < 999983; decide), ?_⟩⟩⟩
        refine ⟨(by show 3 ≤ sizeLine; decide), fun l hl => ?_⟩
        exact k l _ (same_new hl) hl ⟨_, _, _, upd_same, (mod7 (by decide)).1, (mod7 (by decide)).2, by decide, by decide⟩
    refine ⟨_, pss_cons (ps_set (i := 2) scSource.nd rfl (.inl rfl) (pe_ifExp (pt_cmpR op_lt (pv 1) (pe_callB call_len_seq (by rfl) B.len PySem.boot_len (pa_cons (pv 0) pa_nil)) (nomark _)) (pe_ix ix_list (pv 0) (pv 1) (fun _ _ => rfl)) pe_int)) hC, ?_⟩
    refine ⟨_, rfl, _, rfl, p, _, rfl, .inl hS, _, _, rfl, rfl, _, rfl, ?_⟩
    refine ite2 (fun hlt => ?_) (fun _ => ?_)
    · have hlt := of_decide_eq_true hlt
      rw [List.length_map] at hlt
      obtain ⟨j, rfl⟩ := Int.eq_ofNat_of_zero_le p0
      have hj : j < ns.length := by omega
      have hx : (ns.map V.int)[j]? = some (V.int ns[j]) := by
        rw [List.getElem?_map, List.getElem?_eq_getElem hj]
        rfl
      exact ⟨_, rfl, _, rfl, p, _, _, _, rfl, rfl, hS, atI_nat hx, qC _⟩
    · exact qC 0
/-! ## tuples drawn -/
abbrev sMade : Stmt := top 7
def spMade : Sp := fun vs H Q _ => ∃ (p : Addr) (n : Nat) (m : Nat), vs = [.ref p, .int m] ∧ Sc p n H ∧ n ≤ 10000 ∧ m ≤ 4 ∧ ∀ (t : Addr) (md : List Int) H', H t = none → H' t = some (.tup (md.map V.int)) → Gs p (n + 4) H H' → Q (.ref t) H'
theorem scMade : FnScope ["_law_source_here", "_law_size", "_law_travel"] ["_law_source_here", "_law_size"] (defScope sMade) := ⟨rfl, rfl, rfl, by decide +kernel, rfl, by decide +kernel, by decide +kernel⟩
theorem ok_made {f fD : Addr} {fd fdD : FuncData} (F : Fun K "_law_made" "_law_made" sMade f fd) (B : Bn mg) (D : Known P w K mg base CX0 1 "_law_draw" ["_law_source_here", "_law_many"] spDraw fD fdD) : FnOk P w K mg base CX0 2 f fd ["_law_source_here", "_law_size"] spMade := by
  refine F.ok scMade (fun vs H Q E h => ?_) (fun cdv A outer s H vs Q E hr h => ?_)
  · obtain ⟨p, n, m, rfl, _⟩ := h
    rfl
  · obtain ⟨p, n, m, rfl, S, few, m4, k⟩ := h
    refine ⟨_, pss_one (ps_ret (pe_callTy call_tuple_of (by rfl) B.tuple PyProof.Rows.boot_tuple (pa_cons (pe_lc (own := [("_law_travel", 2)]) (g := gName 2) (te := tVar 2) rfl scMade.nd (pi_range2 rfl B.range (pa_cons pe_int (pa_cons (pe_op op_add (pv 1) pe_int) pa_nil)))
        (blkOk_by (N := ["_law_source_here", "_law_size", "_law_travel"]) (sc := defScope sMade) (by decide +kernel)) (fun _ _ _ _ _ => pg_name (i := 2) scMade.nd rfl (Or.inl rfl))
        (fun _ _ _ _ _ => pts_one (pt_cmpR op_gt (pe_call D.ok hr rfl D.mg D.kp D.bi .nil pass0 (pa_cons (pv 0) (pa_cons pe_int pa_nil))) pe_int (nomark _)))
        (fun _ _ _ _ _ => pv 2)) pa_nil))), ?_⟩
    refine ⟨_, rfl, _, _, rfl, rfl, 1, _, rfl, ⟨by decide, by decide, by omega, by omega⟩, fun D hD => ?_⟩
    have en : ((m : Int) + 1 - 1).toNat = m := by omega
    rw [en]
    refine lc_it walk_range (fun i H' => Gs p (n + i) H H' ∧ ∃ md : List Int, md.length ≤ i ∧ H' D = some (.lst (md.map V.int))) ⟨(Gs.refl S).new hD, [], Nat.le_refl _, upd_same⟩ (fun _ _ _ _ => trivial) ?_ ?_
    · rintro i y H5 H6 hi ⟨go, md, lm, eD⟩ ⟨rfl, rfl⟩
      have nD : D ≠ p := ne_of_none_r S hD
      refine ⟨rfl, ?_⟩
      refine ⟨_, rfl, p, 4, n + i, rfl, go.sc, by omega, by decide, by decide, fun v H7 v0 v1 g => ?_⟩
      refine ⟨_, _, rfl, rfl, _, rfl, ?_⟩
      have g2 := go.trans g
      have eD2 := g.but _ _ nD eD
      refine ite2 (fun _ => ?_) (fun _ => ?_)
      · refine ⟨_, rfl, md.map V.int, eD2, ?_, g2.over hD nD, md ++ [1 + (i : Int)], ?_, ?_⟩
        · rw [List.length_map, sizeLine_eq]
          omega
        · rw [List.length_append]
          show md.length + 1 ≤ i + 1
          omega
        · rw [upd_same, List.map_append]
          rfl
      · exact ⟨g2, md, by omega, eD2⟩
    · rintro H5 ⟨go, md, lm, eD⟩
      refine ⟨D, _, rfl, .inl ⟨SqL.of eD, fun l hl => ?_⟩⟩
      have hlH : H l = none := by
        cases e : H l with
        | none => rfl
        | some o =>
          exfalso
          by_cases z : l = p
          · obtain ⟨a, b, c, q, _⟩ := go.sc
            rw [z, q] at hl
            cases hl
          · rw [go.but _ _ z e] at hl
            cases hl
      exact k l md _ hlH upd_same ((go.new hl).le (by omega))
abbrev sFlags : Stmt := top 8
def spFlags : Sp := fun vs H Q _ => ∃ (p : Addr) (n : Nat) (m : Nat), vs = [.ref p, .int m] ∧ Sc p n H ∧ n ≤ 10000 ∧ m ≤ 4 ∧ ∀ (t : Addr) (bs : List Bool) H', bs.length = m → H t = none → H' t = some (.tup (bs.map V.bl)) → Gs p (n + 4) H H' → Q (.ref t) H'
theorem scFlags : FnScope ["_law_source_here", "_law_size", "_law_travel"] ["_law_source_here", "_law_size"] (defScope sFlags) := ⟨rfl, rfl, rfl, by decide +kernel, rfl, by decide +kernel, by decide +kernel⟩
theorem ok_flags {f fD : Addr} {fd fdD : FuncData} (F : Fun K "_law_flags" "_law_flags" sFlags f fd) (B : Bn mg) (D : Known P w K mg base CX0 1 "_law_draw" ["_law_source_here", "_law_many"] spDraw fD fdD) : FnOk P w K mg base CX0 2 f fd ["_law_source_here", "_law_size"] spFlags := by
  refine F.ok scFlags (fun vs H Q E h => ?_) (fun cdv A outer s H vs Q E hr h => ?_)
  · obtain ⟨p, n, m, rfl, _⟩ := h
    rfl
  · obtain ⟨p, n, m, rfl, S, few, m4, k⟩ := h
    refine ⟨_, pss_one (ps_ret (pe_callTy call_tuple_of (by rfl) B.tuple PyProof.Rows.boot_tuple (pa_cons (pe_lc (own := [("_law_travel", 2)]) (g := gName 2) (tt := tYes) (te := tOp (rI0 fun i j => .bl (decide (j < i))) (tCall spDraw [] E0 (tCons (tVar 0) (tCons (tC (.int 3)) tNil))) (tC (.int 0))) rfl scFlags.nd (pi_range1 rfl B.range (pa_cons (pv 1) pa_nil))
        (blkOk_by (N := ["_law_source_here", "_law_size", "_law_travel"]) (sc := defScope sFlags) (by decide +kernel)) (fun _ _ _ _ _ => pg_name (i := 2) scFlags.nd rfl (Or.inl rfl))
        (fun _ _ _ _ _ => pts_nil)
        (fun _ _ _ _ _ => pe_cmpR op_gt (pe_call D.ok hr rfl D.mg D.kp D.bi .nil pass0 (pa_cons (pv 0) (pa_cons pe_int pa_nil))) pe_int (nomark _))) pa_nil))), ?_⟩
    refine ⟨_, rfl, (m : Int), rfl, by omega, by omega, fun D hD => ?_⟩
    have en : (m : Int).toNat = m := by omega
    rw [en]
    refine lc_it walk_range (fun i H' => Gs p (n + i) H H' ∧ ∃ bs : List Bool, bs.length = i ∧ H' D = some (.lst (bs.map V.bl))) ⟨(Gs.refl S).new hD, [], rfl, upd_same⟩ (fun _ _ _ _ => trivial) ?_ ?_
    · rintro i y H5 H6 hi ⟨go, bs, lm, eD⟩ ⟨rfl, rfl⟩
      have nD : D ≠ p := ne_of_none_r S hD
      refine ⟨rfl, ?_⟩
      refine ⟨_, rfl, p, 3, n + i, rfl, go.sc, by omega, by decide, by decide, fun v H7 v0 v1 g => ?_⟩
      refine ⟨_, _, rfl, rfl, bs.map V.bl, g.but _ _ nD eD, ?_, (go.trans g).over hD nD, bs ++ [decide (0 < v)], ?_, ?_⟩
      · rw [List.length_map, sizeLine_eq]
        omega
      · rw [List.length_append]
        show bs.length + 1 = i + 1
        omega
      · rw [upd_same, List.map_append]
        rfl
    · rintro H5 ⟨go, bs, lm, eD⟩
      refine ⟨D, _, rfl, .inl ⟨SqL.of eD, fun l hl => ?_⟩⟩
      have hlH : H l = none := by
        cases e : H l with
        | none => rfl
        | some o =>
          exfalso
          by_cases z : l = p
          · obtain ⟨a, b, c, q, _⟩ := go.sc
            rw [z, q] at hl
            cases hl
          · rw [go.but _ _ z e] at hl
            cases hl
      exact k l bs _ lm hlH upd_same ((go.new hl).le (by omega))
end
end Wq
set_option Elab.async false
set_option linter.all false
set_option maxRecDepth 100000
set_option maxHeartbeats 4000000
namespace Wq
open PySem PySem.Spec PyProof.Rows L2
/-! ## the mathematics: level by level -/
def IsRule (r : Str) : Prop := r = "itself" ∨ r = "marks" ∨ r = "never"
theorem r1 : ¬ ("marks" : Str) = "itself" := by decide +kernel
theorem r2 : ¬ ("never" : Str) = "itself" := by decide +kernel
theorem r3 : ¬ ("never" : Str) = "marks" := by decide +kernel
def ruled (r : Str) (memo before : Bool) : Bool := if r = "itself" then memo && before else if r = "marks" then memo else false
def lev (r : Str) (both one memo before : Bool) : Bool := if both = true then ruled r memo before else before && !one
structure Inp where
  rs : List Str
  md : List Int
  ot : List Int
  ms : List Bool
  ss : List Bool
def hasI (md : List Int) (k : Nat) : Bool := inV (.int ((k : Int) + 1)) (md.map V.int)
def lvl (I : Inp) (home : Bool) : Nat → Bool
  | 0 => home
  | i + 1 => (I.ss[i]?.getD false) || lev (I.rs[i]?.getD "never") (hasI I.md i && hasI I.ot i) (hasI I.md i || hasI I.ot i) (I.ms[i]?.getD false) (lvl I home i)
def outs (I : Inp) (home : Bool) (n : Nat) : List Bool := (List.range n).map fun j => lvl I home (j + 1)
theorem outs_len (I : Inp) (home : Bool) (n : Nat) : (outs I home n).length = n := by simp [outs]
theorem outs_succ (I : Inp) (home : Bool) (n : Nat) : outs I home (n + 1) = outs I home n ++ [lvl I home (n + 1)] := by simp [outs, List.range_succ]
theorem flat_ints (md : List Int) : (md.map V.int).all flatV = true := by
  induction md with
  | nil => rfl
  | cons a l ih =>
    rw [List.map_cons, List.all_cons, ih]
    rfl
section
variable {P : Program} {w : World} {K : PySem.W.Frag} {mg : Str → Option Value} {base : Heap}
/-! ## meets -/
abbrev sMeets : Stmt := top 1
def spMeets : Sp := fun vs H Q _ => ∃ (r : Str) (m b : Bool), vs = [.str r, .bl m, .bl b] ∧ IsRule r ∧ Q (.bl (ruled r m b)) H
theorem scMeets : FnScope ["rule", "memo", "before"] ["rule", "memo", "before"] (defScope sMeets) := ⟨rfl, rfl, rfl, by decide +kernel, rfl, by decide +kernel, by decide +kernel⟩
theorem ok_meets {f : Addr} {fd : FuncData} (F : Fun K "_meets" "_meets" sMeets f fd) : FnOk P w K mg base CX0 1 f fd ["rule", "memo", "before"] spMeets := by
  refine F.ok scMeets (fun vs H Q E h => ?_) (fun cdv A outer s H vs Q E hr h => ?_)
  · obtain ⟨r, m, b, rfl, _⟩ := h
    rfl
  · obtain ⟨r, m, b, rfl, hR, q⟩ := h
    refine ⟨_, pss_cons (ps_if (pt_cmpR op_eq (pv 0) pe_str (nomark _)) (pss_one (ps_ret (pe_and (pv 1) (pe_one (pv 2))))) pss_nil)
      (pss_one (ps_ret (pe_and (pe_cmpR op_eq (pv 0) pe_str (nomark _)) (pe_one (pv 1))))), ?_⟩
    refine ⟨_, rfl, rfl, _, rfl, ?_⟩
    rcases hR with rfl | rfl | rfl
    · rw [show decide (V.str "itself" = V.str "itself") = true from decide_eq_true rfl]
      refine ⟨_, rfl, m, rfl, ?_⟩
      cases m
      · exact q
      · exact ⟨_, rfl, q⟩
    · rw [show decide (V.str "marks" = V.str "itself") = false from decide_eq_false fun z => r1 (V.str.inj z)]
      refine ⟨_, rfl, rfl, _, rfl, ?_⟩
      rw [show decide (V.str "marks" = V.str "marks") = true from decide_eq_true rfl]
      refine ⟨_, rfl, ?_⟩
      exact q
    · rw [show decide (V.str "never" = V.str "itself") = false from decide_eq_false fun z => r2 (V.str.inj z)]
      refine ⟨_, rfl, rfl, _, rfl, ?_⟩
      rw [show decide (V.str "never" = V.str "marks") = false from decide_eq_false fun z => r3 (V.str.inj z)]
      exact q
/-! ## level -/
abbrev sLevel : Stmt := top 9
def spLevel : Sp := fun vs H Q _ => ∃ (r : Str) (bo on m b : Bool), vs = [.str r, .bl bo, .bl on, .bl m, .bl b] ∧ IsRule r ∧ ∀ H', Same H H' → Q (.bl (lev r bo on m b)) H'
theorem scLevel : FnScope ["_law_rule", "_law_both", "_law_one", "_law_memo", "_law_before"] ["_law_rule", "_law_both", "_law_one", "_law_memo", "_law_before"] (defScope sLevel) := ⟨rfl, rfl, rfl, by decide +kernel, rfl, by decide +kernel, by decide +kernel⟩
theorem menu_made {x y : Bool} : mergeK [] ([(Sum.inr "itself", .bl x), (Sum.inr "marks", .bl y), (Sum.inr "never", .bl false)] : List (Key × V)) = ([(Sum.inr "itself", .bl x), (Sum.inr "marks", .bl y), (Sum.inr "never", .bl false)] : List (Key × V)) := by
  simp [mergeK, putK, r1, r2, r3, Ne.symm r1, Ne.symm r2, Ne.symm r3]
theorem kne {x y : Str} (h : ¬ x = y) : ¬ (Sum.inr x : Key) = Sum.inr y := fun z => h (Sum.inr.inj z)
theorem ok_level {f : Addr} {fd : FuncData} (F : Fun K "_law_level" "_law_level" sLevel f fd) : FnOk P w K mg base CX0 1 f fd ["_law_rule", "_law_both", "_law_one", "_law_memo", "_law_before"] spLevel := by
  refine F.ok scLevel (fun vs H Q E h => ?_) (fun cdv A outer s H vs Q E hr h => ?_)
  · obtain ⟨r, bo, on, m, b, rfl, _⟩ := h
    rfl
  · obtain ⟨r, bo, on, m, b, rfl, hR, q⟩ := h
    have hu := hu_of hr
    refine ⟨_, pss_cons (ps_if (pt_not (pt_val (pv 1))) (pss_one (ps_ret (pe_and (pv 4) (pe_one (pe_not (pv 2)))))) pss_nil)
      (pss_one (ps_ret (pe_dget hu (pe_disp (pps_cons pe_str (pe_and (pv 3) (pe_one (pv 4))) (pps_cons pe_str (pv 3) (pps_cons pe_str pe_bl pps_nil))) rfl rfl (by simp) (by decide)) (pv 0) (fun _ _ => rfl)))), ?_⟩
    refine ⟨_, rfl, bo, rfl, ?_⟩
    cases bo
    · refine ⟨_, rfl, b, rfl, ?_⟩
      cases b
      · exact q _ (Same.refl H)
      · exact ⟨_, rfl, on, rfl, q _ (Same.refl H)⟩
    · intro p hp
      have fin : ∀ (z : Bool), z = (m && b) → ∀ H2, H2 = upd H p (.dK []) → H2 p = some (.dK []) ∧ ∃ kvs : List (Key × V), [(V.str "itself", V.bl z), (V.str "marks", V.bl m), (V.str "never", V.bl false)] = kvs.map (fun kv => (kV kv.1, kv.2)) ∧ kvs.length ≤ 15 ∧
          ∃ y : V, some (some (V.str r)) = some (some y) ∧ ∃ a v, V.ref p = .ref a ∧ DGet (upd H2 p (.dK (mergeK [] kvs))) a y (some v) ∧ Q v (upd H2 p (.dK (mergeK [] kvs))) := by
        rintro z rfl H2 rfl
        refine ⟨upd_same, [(Sum.inr "itself", .bl (m && b)), (Sum.inr "marks", .bl m), (Sum.inr "never", .bl false)], rfl, (by show 3 ≤ 15; decide), _, rfl, p, .bl (ruled r m b), rfl, ?_, ?_⟩
        · rw [menu_made, upd_upd]
          have e := DGet.k (H := upd H p (.dK [(Sum.inr "itself", V.bl (m && b)), (Sum.inr "marks", .bl m), (Sum.inr "never", .bl false)])) (a := p) (k := Sum.inr r) upd_same
          have ev : valV [((Sum.inr "itself" : Key), V.bl (m && b)), (Sum.inr "marks", .bl m), (Sum.inr "never", .bl false)] (Sum.inr r) = some (.bl (ruled r m b)) := by
            rcases hR with rfl | rfl | rfl
            · exact valV_pos rfl
            · exact (valV_neg (kne (Ne.symm r1))).trans (valV_pos rfl)
            · exact (valV_neg (kne (Ne.symm r2))).trans ((valV_neg (kne (Ne.symm r3))).trans (valV_pos rfl))
          rw [ev] at e
          exact e
        · rw [upd_upd]
          exact q _ (same_new hp)
      refine ⟨_, rfl, m, rfl, ?_⟩
      cases m
      · exact ⟨_, rfl, fin _ rfl _ rfl⟩
      · exact ⟨_, rfl, _, rfl, fin _ rfl _ rfl⟩
end
end Wq
set_option Elab.async false
set_option linter.all false
set_option maxRecDepth 100000
set_option maxHeartbeats 4000000
namespace Wq
open PySem PySem.Spec PyProof.Rows L2
def loopBody : Stmt → List Stmt
  | .For _ _ b _ _ => b
  | _ => []
def ifElse : Stmt → List Stmt
  | .If _ _ e _ => e
  | _ => []
def frst : List Stmt → Stmt
  | a :: _ => a
  | [] => .Pass ⟨0, 0, 0, 0⟩
theorem in_tup {K : PySem.W.Frag} {H : Hp} {a : Addr} {md : List Int} {i : Nat} {Q : VK} (h : SqT K H a (md.map V.int)) (q : Q (.bl (hasI md i)) H) : rIn K false (.int ((i : Nat) + 1)) (.ref a) H Q :=
  ⟨a, _, rfl, .inr h, rfl, flat_ints md, q⟩
/-- the arguments, as they stand -/
structure InpAt (K : PySem.W.Frag) (H : Hp) (I : Inp) (n : Nat) (r md ot ms : Addr) : Prop where
  sr : SqT K H r (I.rs.map V.str)
  sm : SqT K H md (I.md.map V.int)
  so : SqT K H ot (I.ot.map V.int)
  ss : SqT K H ms (I.ms.map V.bl)
  lr : I.rs.length = n
  lm : I.ms.length = n
  ls : I.ss.length = n
  n4 : n ≤ 4
  ru : ∀ x ∈ I.rs, IsRule x
theorem tup_same {K : PySem.W.Frag} {H H' : Hp} {a : Addr} {xs : List V} (s : Same H H') (h : SqT K H a xs) : SqT K H' a xs := by
  rcases h with (h | ⟨o, h⟩) | h
  · exact .inl (.inl (s _ _ h))
  · exact .inl (.inr ⟨o, s _ _ h⟩)
  · exact .inr h
theorem InpAt.same {K : PySem.W.Frag} {H H' : Hp} {I : Inp} {n : Nat} {r md ot ms : Addr} (h : InpAt K H I n r md ot ms) (s : Same H H') : InpAt K H' I n r md ot ms :=
  ⟨tup_same s h.sr, tup_same s h.sm, tup_same s h.so, tup_same s h.ss, h.lr, h.lm, h.ls, h.n4, h.ru⟩
/-- which were shared: a tuple, or None -/
def SameV (K : PySem.W.Frag) (H : Hp) (v : V) (ss : List Bool) : Prop := (v = .non ∧ ∀ b ∈ ss, b = false) ∨ ∃ a, v = .ref a ∧ SqT K H a (ss.map V.bl)
theorem SameV.same {K : PySem.W.Frag} {H H' : Hp} {v : V} {ss : List Bool} (h : SameV K H v ss) (s : Same H H') : SameV K H' v ss := by
  rcases h with h | ⟨a, e, h⟩
  · exact .inl h
  · exact .inr ⟨a, e, tup_same s h⟩
theorem map_at {α : Type} {f : α → V} {l : List α} {i : Nat} {x : α} (h : l[i]? = some x) : (l.map f)[i]? = some (f x) := by
  rw [List.getElem?_map, h]
  rfl
theorem lvl_succ {I : Inp} {home : Bool} {i : Nat} {s m : Bool} {r : Str} (es : I.ss[i]? = some s) (er : I.rs[i]? = some r) (em : I.ms[i]? = some m) :
    lvl I home (i + 1) = (s || lev r (hasI I.md i && hasI I.ot i) (hasI I.md i || hasI I.ot i) m (lvl I home i)) := by
  show ((I.ss[i]?.getD false) || lev (I.rs[i]?.getD "never") (hasI I.md i && hasI I.ot i) (hasI I.md i || hasI I.ot i) (I.ms[i]?.getD false) (lvl I home i)) = _
  rw [es, er, em]
  rfl
section
variable {P : Program} {w : World} {K : PySem.W.Frag} {mg : Str → Option Value} {base : Heap}
theorem dec_non : decide (V.non = V.non) = true := decide_eq_true rfl
theorem dec_ref {a : Addr} : decide (V.ref a = V.non) = false := decide_eq_false fun z => by cases z
abbrev sMeeting : Stmt := top 2
abbrev FMeeting (K : PySem.W.Frag) (f : Addr) (fd : FuncData) : Prop := FunD K "meeting" "meeting" (defArgs sMeeting) (defBody sMeeting) (defScope sMeeting) [] [("same", .non), ("home", .bl true)] f fd
def spMeeting (K : PySem.W.Frag) : Sp := fun vs H Q _ => ∃ (I : Inp) (n : Nat) (r md ot ms : Addr) (sv : V) (home : Bool), vs = [.ref r, .ref md, .ref ot, .ref ms, sv, .bl home] ∧ InpAt K H I n r md ot ms ∧ SameV K H sv I.ss ∧
  ∀ (t : Addr) H', Same H H' → H t = none → H' t = some (.tup ((outs I home n).map V.bl)) → Q (.ref t) H'
theorem scMeeting : FnScope ["rules", "made", "others", "memos", "same", "home", "found", "before", "at", "rule"] ["rules", "made", "others", "memos", "same", "home"] (defScope sMeeting) := ⟨rfl, rfl, rfl, by decide +kernel, rfl, by decide +kernel, by decide +kernel⟩
theorem ok_meeting {f fM : Addr} {fd fdM : FuncData} (F : FMeeting K f fd) (B : Bn mg) (M : Known P w K mg base CX0 1 "_meets" ["rule", "memo", "before"] spMeets fM fdM) : FnOk P w K mg base CX0 2 f fd ["rules", "made", "others", "memos", "same", "home"] (spMeeting K) := by
  refine F.ok scMeeting (fun vs H Q E h => ?_) (fun cdv A outer s H vs Q E hr h => ?_)
  · obtain ⟨I, n, r, md, ot, ms, sv, home, rfl, _⟩ := h
    rfl
  · obtain ⟨I, n, r, md, ot, ms, sv, home, rfl, hI, hS, k⟩ := h
    obtain ⟨tC, hC, qC⟩ : ∃ t, PSs (cxOf CX0 P w K mg base ["rules", "made", "others", "memos", "same", "home", "found", "before", "at", "rule"] "meeting" (defScope sMeeting) f cdv A outer s H E).nox ((loopBody ((defBody sMeeting).getD 2 (.Pass ⟨0, 0, 0, 0⟩))).drop 1) t ∧
        ∀ (D : Ends) (l : Addr) (b : Bool) (xs : List V) (y8 y9 : Option V) (H2 : Hp), H2 l = some (.lst xs) → xs.length < sizeLine → D.nx [some (.ref r), some (.ref md), some (.ref ot), some (.ref ms), some sv, some (.bl home), some (.ref l), some (.bl b), y8, y9] (upd H2 l (.lst (xs ++ [.bl b]))) →
          t D [some (.ref r), some (.ref md), some (.ref ot), some (.ref ms), some sv, some (.bl home), some (.ref l), some (.bl b), y8, y9] H2 := by
      refine ⟨_, pss_one (ps_expr (pe_bm PySem.F.plainAttrs_list PySem.F.slot_list_append PySem.F.type_list_append mt_append (pv 6) (pa_cons (pv 7) pa_nil))), ?_⟩
      intro D l b xs y8 y9 H2 hl hz q
      exact ⟨_, rfl, .inl ⟨rfl, _, SqL.of hl⟩, _, rfl, l, _, _, rfl, rfl, hl, hz, q⟩
    obtain ⟨tE, hE, qE⟩ : ∃ t, PSs (cxOf CX0 P w K mg base ["rules", "made", "others", "memos", "same", "home", "found", "before", "at", "rule"] "meeting" (defScope sMeeting) f cdv A outer s H E).nox (ifElse (frst (loopBody ((defBody sMeeting).getD 2 (.Pass ⟨0, 0, 0, 0⟩))))) t ∧
        ∀ (D : Ends) (l : Addr) (b : Bool) (i : Nat) (ri : Str) (mi : Bool) (H2 : Hp), InpAt K H2 I n r md ot ms → IsRule ri → I.ms[i]? = some mi → (∀ c, c = lev ri (hasI I.md i && hasI I.ot i) (hasI I.md i || hasI I.ot i) mi b → D.nx [some (.ref r), some (.ref md), some (.ref ot), some (.ref ms), some sv, some (.bl home), some (.ref l), some (.bl c), some (.int (i : Nat)), some (.str ri)] H2) →
          t D [some (.ref r), some (.ref md), some (.ref ot), some (.ref ms), some sv, some (.bl home), some (.ref l), some (.bl b), some (.int (i : Nat)), some (.str ri)] H2 := by
      refine ⟨_, (pss_one (ps_if (PW.pt (pw_and (pt_cmpR op_in_seq (pe_op op_add (pv 8) pe_int) (pv 1) (by rfl)) (pw_and1 (pt_cmpR op_in_seq (pe_op op_add (pv 8) pe_int) (pv 2) (by rfl)))))
              (pss_one (ps_set (i := 7) scMeeting.nd rfl (.inl rfl) (pe_call M.ok hr rfl M.mg M.kp M.bi .nil pass0 (pa_cons (pv 9) (pa_cons (pe_ix ix_tup (pv 3) (pv 8) (fun _ _ => rfl)) (pa_cons (pv 7) pa_nil))))))
              (pss_one (ps_if (PW.pt (pw_or (pt_cmpR op_in_seq (pe_op op_add (pv 8) pe_int) (pv 1) (by rfl)) (pw_or1 (pt_cmpR op_in_seq (pe_op op_add (pv 8) pe_int) (pv 2) (by rfl)))))
                (pss_one (ps_set (i := 7) scMeeting.nd rfl (.inl rfl) pe_bl))
                pss_nil)))), ?_⟩
      intro D l b i ri mi H2 J iru em q
      refine ⟨_, rfl, _, _, rfl, rfl, _, rfl, in_tup J.sm ⟨_, rfl, ?_⟩⟩
      cases h1 : hasI I.md i
      · -- not made here
        refine ⟨_, rfl, _, _, rfl, rfl, _, rfl, in_tup J.sm ⟨_, rfl, ?_⟩⟩
        rw [h1]
        refine ⟨_, rfl, _, _, rfl, rfl, _, rfl, in_tup J.so ⟨_, rfl, ?_⟩⟩
        cases h2 : hasI I.ot i
        · exact q b (by rw [h1, h2]; simp [lev])
        · exact q false (by rw [h1, h2]; simp [lev])
      · refine ⟨_, rfl, _, _, rfl, rfl, _, rfl, in_tup J.so ⟨_, rfl, ?_⟩⟩
        cases h2 : hasI I.ot i
        · refine ⟨_, rfl, _, _, rfl, rfl, _, rfl, in_tup J.sm ⟨_, rfl, ?_⟩⟩
          rw [h1]
          exact q false (by rw [h1, h2]; simp [lev])
        · refine ⟨_, rfl, _, rfl, _, rfl, ms, _, _, _, rfl, rfl, J.ss, atI_nat (map_at em), _, rfl, ri, mi, b, rfl, iru, ?_⟩
          exact q _ (by rw [h1, h2]; simp [lev])
    refine ⟨_, PSs.nox (pss_cons (ps_set (i := 6) scMeeting.nd rfl (.inl rfl) (pe_lst pa_nil))
      (pss_cons (ps_set (i := 7) scMeeting.nd rfl (.inl rfl) (pv 5))
      (pss_cons (ps_for PassesOwn.never rfl (pi_enumT (by rfl) B.enumerate (pa_cons (pv 0) pa_nil))
          (pg_tup rfl (pgs_cons (pg_name (i := 8) scMeeting.nd rfl (.inl rfl)) (pgs_cons (pg_name (i := 9) scMeeting.nd rfl (.inl rfl)) pgs_nil)))
        (pss_cons (ps_if (PW.pt (pw_and (pt_cmpR op_notN (pv 4) pe_non (nomark _)) (pw_and1 (pt_val (pe_ix ix_tup (pv 4) (pv 8) (fun _ _ => rfl))))))
            (pss_one (ps_set (i := 7) scMeeting.nd rfl (.inl rfl) pe_bl))
            hE)
          hC))
      (pss_one (ps_ret (pe_callTy call_tuple_of (by rfl) B.tuple PyProof.Rows.boot_tuple (pa_cons (pv 6) pa_nil))))))), ?_⟩
    refine ⟨Nat.zero_le _, fun l hl => ?_⟩
    have s0 : Same H (upd H l (.lst [])) := same_new hl
    refine ⟨_, rfl, _, rfl, r, I.rs.map V.str, rfl, (hI.same s0).sr, for_enumT (K := K) (xs := I.rs.map V.str)
      (fun i σ H3 => ∃ y8 y9, σ = [some (.ref r), some (.ref md), some (.ref ot), some (.ref ms), some sv, some (.bl home), some (.ref l), some (.bl (lvl I home i)), y8, y9] ∧ Same H H3 ∧ H3 l = some (.lst ((outs I home i).map V.bl)))
      ⟨none, none, rfl, s0, upd_same⟩ (fun i σ H3 ⟨_, _, _, s3, _⟩ => (hI.same s3).sr) ?_ ?_⟩
    · rintro i x T σ H3 hx ⟨y8, y9, rfl, s3, e3⟩ hT
      have hi : i < n := by
        have := (List.getElem?_eq_some_iff.mp hx).1
        rw [List.length_map, hI.lr] at this
        exact this
      have er : I.rs[i]? = some (I.rs[i]'(by rw [hI.lr]; exact hi)) := List.getElem?_eq_getElem _
      have em : I.ms[i]? = some (I.ms[i]'(by rw [hI.lm]; exact hi)) := List.getElem?_eq_getElem _
      have es : I.ss[i]? = some (I.ss[i]'(by rw [hI.ls]; exact hi)) := List.getElem?_eq_getElem _
      have iru : IsRule (I.rs[i]'(by rw [hI.lr]; exact hi)) := hI.ru _ (List.getElem_mem _)
      have mss : (I.ss[i]'(by rw [hI.ls]; exact hi)) ∈ I.ss := List.getElem_mem _
      generalize I.rs[i]'(by rw [hI.lr]; exact hi) = ri at er iru
      generalize I.ms[i]'(by rw [hI.lm]; exact hi) = mi at em
      generalize I.ss[i]'(by rw [hI.ls]; exact hi) = si at es mss
      have el := lvl_succ (home := home) es er em
      have ex : x = .str ri := by
        rw [map_at er] at hx
        exact (Option.some.inj hx).symm
      subst ex
      have s4 : Same H (upd H3 T (.tup [.int (i : Nat), .str ri])) := s3.trans (same_new hT)
      have e4 : (upd H3 T (.tup [.int (i : Nat), .str ri])) l = some (.lst ((outs I home i).map V.bl)) := by
        rw [upd_ne (ne_of_none e3 hT)]
        exact e3
      have lz : ((outs I home i).map V.bl).length < sizeLine := by
        rw [List.length_map, outs_len, sizeLine_eq]
        have := hI.n4
        omega
      have J := hI.same s4
      have JS := hS.same s4
      refine ⟨T, [.int (i : Nat), .str ri], rfl, SqT.of upd_same, rfl, _, _, rfl, _, _, rfl, rfl, ?_⟩
      generalize upd H3 T (.tup [.int (i : Nat), .str ri]) = H4 at s4 e4 J JS
      have fin : ∀ (D : Ends) (b : Bool), b = lvl I home (i + 1) → (∀ σ' H', (∃ y8 y9, σ' = [some (.ref r), some (.ref md), some (.ref ot), some (.ref ms), some sv, some (.bl home), some (.ref l), some (.bl (lvl I home (i + 1))), y8, y9] ∧ Same H H' ∧ H' l = some (.lst ((outs I home (i + 1)).map V.bl))) → D.nx σ' H') →
          tC D [some (.ref r), some (.ref md), some (.ref ot), some (.ref ms), some sv, some (.bl home), some (.ref l), some (.bl b), some (.int (i : Nat)), some (.str ri)] H4 := by
        rintro D b rfl hn
        refine qC D l _ _ _ _ _ e4 lz (hn _ _ ⟨_, _, rfl, fun c o e => ?_, ?_⟩)
        · rw [upd_ne (ne_of_none e hl)]
          exact s4 _ _ e
        · rw [upd_same, outs_succ, List.map_append]
          rfl
      refine ⟨_, rfl, rfl, ?_⟩
      rcases JS with ⟨rfl, hn⟩ | ⟨a, rfl, hsq⟩
      · rw [dec_non]
        have esi : si = false := hn _ mss
        refine ⟨_, rfl, ?_⟩
        exact qE _ l _ i ri mi H4 J iru em fun c ec => fin _ c (by rw [el, ec, esi, Bool.false_or]) fun _ _ z => z
      · rw [dec_ref]
        refine ⟨_, rfl, ?_⟩
        refine ⟨_, rfl, _, rfl, a, _, _, _, rfl, rfl, hsq, atI_nat (map_at es), _, rfl, ?_⟩
        cases si
        · exact qE _ l _ i ri mi H4 J iru em fun c ec => fin _ c (by rw [el, ec, Bool.false_or]) fun _ _ z => z
        · exact fin _ true (by rw [el, Bool.true_or]) fun _ _ z => z
    · rintro σ H3 ⟨y8, y9, rfl, s3, e3⟩
      refine ⟨_, rfl, l, _, rfl, .inl ⟨SqL.of e3, fun t ht => ?_⟩⟩
      have htH : H t = none := by
        cases e : H t with
        | none => rfl
        | some o =>
          rw [s3 _ _ e] at ht
          cases ht
      rw [List.length_map, hI.lr] at *
      exact k t _ (s3.trans (same_new ht)) htH upd_same
end
end Wq
set_option Elab.async false
set_option linter.all false
set_option maxRecDepth 100000
set_option maxHeartbeats 4000000
namespace Wq
open PySem PySem.Spec PyProof.Rows L2
section
variable {P : Program} {w : World} {K : PySem.W.Frag} {mg : Str → Option Value} {base : Heap}
abbrev sDue : Stmt := top 10
def spDue (K : PySem.W.Frag) : Sp := fun vs H Q _ => ∃ (I : Inp) (n : Nat) (r md ot ms sm : Addr) (home : Bool), vs = [.ref r, .ref md, .ref ot, .ref ms, .ref sm, .bl home] ∧ InpAt K H I n r md ot ms ∧ SqT K H sm (I.ss.map V.bl) ∧
  ∀ (t : Addr) H', Same H H' → H t = none → H' t = some (.tup ((outs I home n).map V.bl)) → Q (.ref t) H'
theorem scDue : FnScope ["_law_rules", "_law_made_here", "_law_others", "_law_memos", "_law_own_same", "_law_own_home", "_law_due_here", "_law_before", "_law_at", "_law_rule", "_law_here", "_law_there"] ["_law_rules", "_law_made_here", "_law_others", "_law_memos", "_law_own_same", "_law_own_home"] (defScope sDue) := ⟨rfl, rfl, rfl, by decide +kernel, rfl, by decide +kernel, by decide +kernel⟩
theorem ok_due {f fL : Addr} {fd fdL : FuncData} (F : Fun K "_law_due" "_law_due" sDue f fd) (B : Bn mg) (L : Known P w K mg base CX0 1 "_law_level" ["_law_rule", "_law_both", "_law_one", "_law_memo", "_law_before"] spLevel fL fdL) : FnOk P w K mg base CX0 2 f fd ["_law_rules", "_law_made_here", "_law_others", "_law_memos", "_law_own_same", "_law_own_home"] (spDue K) := by
  refine F.ok scDue (fun vs H Q E h => ?_) (fun cdv A outer s H vs Q E hr h => ?_)
  · obtain ⟨I, n, r, md, ot, ms, sm, home, rfl, _⟩ := h
    rfl
  · obtain ⟨I, n, r, md, ot, ms, sm, home, rfl, hI, hS, k⟩ := h
    refine ⟨_, pss_cons (ps_par (i := 6) (j := 7) (by rfl) scDue.nd rfl rfl (by decide) rfl rfl (pa_cons (pe_lst pa_nil) (pa_cons (pv 5) pa_nil)) (by rfl))
      (pss_cons (ps_for PassesOwn.never rfl (pi_enumT (by rfl) B.enumerate (pa_cons (pv 0) pa_nil))
          (pg_tup rfl (pgs_cons (pg_name (i := 8) scDue.nd rfl (.inl rfl)) (pgs_cons (pg_name (i := 9) scDue.nd rfl (.inl rfl)) pgs_nil)))
        (pss_cons (ps_par (i := 10) (j := 11) (by rfl) scDue.nd rfl rfl (by decide) rfl rfl (pa_cons (pe_cmpR op_in_seq (pe_op op_add (pv 8) pe_int) (pv 1) (by rfl)) (pa_cons (pe_cmpR op_in_seq (pe_op op_add (pv 8) pe_int) (pv 2) (by rfl)) pa_nil)) (by rfl))
        (pss_cons (ps_set (i := 7) scDue.nd rfl (.inl rfl) (pe_or (pe_ix ix_tup (pv 4) (pv 8) (fun _ _ => rfl)) (pe_one (pe_call L.ok hr rfl L.mg L.kp L.bi .nil pass0 (pa_cons (pv 9) (pa_cons (pe_and (pv 10) (pe_one (pv 11))) (pa_cons (pe_or (pv 10) (pe_one (pv 11))) (pa_cons (pe_ix ix_tup (pv 3) (pv 8) (fun _ _ => rfl)) (pa_cons (pv 7) pa_nil)))))))))
        (pss_one (ps_expr (pe_bm PySem.F.plainAttrs_list PySem.F.slot_list_append PySem.F.type_list_append mt_append (pv 6) (pa_cons (pv 7) pa_nil)))))))
      (pss_one (ps_ret (pe_callTy call_tuple_of (by rfl) B.tuple PyProof.Rows.boot_tuple (pa_cons (pv 6) pa_nil))))), ?_⟩
    refine ⟨Nat.zero_le _, fun l hl => ?_⟩
    have s0 : Same H (upd H l (.lst [])) := same_new hl
    refine ⟨_, rfl, _, _, rfl, _, rfl, r, I.rs.map V.str, rfl, (hI.same s0).sr, for_enumT (K := K) (xs := I.rs.map V.str)
      (fun i σ H3 => ∃ y8 y9 y10 y11, σ = [some (.ref r), some (.ref md), some (.ref ot), some (.ref ms), some (.ref sm), some (.bl home), some (.ref l), some (.bl (lvl I home i)), y8, y9, y10, y11] ∧ Same H H3 ∧ H3 l = some (.lst ((outs I home i).map V.bl)))
      ⟨none, none, none, none, rfl, s0, upd_same⟩ (fun i σ H3 ⟨_, _, _, _, _, s3, _⟩ => (hI.same s3).sr) ?_ ?_⟩
    · rintro i x T σ H3 hx ⟨y8, y9, y10, y11, rfl, s3, e3⟩ hT
      have hi : i < n := by
        have := (List.getElem?_eq_some_iff.mp hx).1
        rw [List.length_map, hI.lr] at this
        exact this
      have er : I.rs[i]? = some (I.rs[i]'(by rw [hI.lr]; exact hi)) := List.getElem?_eq_getElem _
      have em : I.ms[i]? = some (I.ms[i]'(by rw [hI.lm]; exact hi)) := List.getElem?_eq_getElem _
      have es : I.ss[i]? = some (I.ss[i]'(by rw [hI.ls]; exact hi)) := List.getElem?_eq_getElem _
      have iru : IsRule (I.rs[i]'(by rw [hI.lr]; exact hi)) := hI.ru _ (List.getElem_mem _)
      generalize I.rs[i]'(by rw [hI.lr]; exact hi) = ri at er iru
      generalize I.ms[i]'(by rw [hI.lm]; exact hi) = mi at em
      generalize I.ss[i]'(by rw [hI.ls]; exact hi) = si at es
      have el := lvl_succ (home := home) es er em
      have ex : x = .str ri := by
        rw [map_at er] at hx
        exact (Option.some.inj hx).symm
      subst ex
      have s4 : Same H (upd H3 T (.tup [.int (i : Nat), .str ri])) := s3.trans (same_new hT)
      have e4 : (upd H3 T (.tup [.int (i : Nat), .str ri])) l = some (.lst ((outs I home i).map V.bl)) := by
        rw [upd_ne (ne_of_none e3 hT)]
        exact e3
      have lz : ((outs I home i).map V.bl).length < sizeLine := by
        rw [List.length_map, outs_len, sizeLine_eq]
        have := hI.n4
        omega
      have J := hI.same s4
      have JS := tup_same s4 hS
      refine ⟨T, [.int (i : Nat), .str ri], rfl, SqT.of upd_same, rfl, _, _, rfl, _, _, rfl, rfl, ?_⟩
      generalize upd H3 T (.tup [.int (i : Nat), .str ri]) = H4 at s4 e4 J JS
      refine ⟨_, rfl, _, _, rfl, rfl, _, rfl, in_tup J.sm ⟨_, rfl, _, _, rfl, rfl, _, rfl, in_tup J.so ⟨_, _, rfl, ?_⟩⟩⟩
      refine ⟨_, rfl, _, rfl, sm, _, _, _, rfl, rfl, JS, atI_nat (map_at es), si, rfl, ?_⟩
      cases si
      · refine ⟨_, rfl, _, rfl, hasI I.md i, rfl, ?_⟩
        have fin : ∀ (bo on : Bool), bo = (hasI I.md i && hasI I.ot i) → on = (hasI I.md i || hasI I.ot i) → ∀ {Q2 : VK}, (∀ H5, Same H4 H5 → Q2 (.bl (lvl I home (i + 1))) H5) → spLevel [.str ri, .bl bo, .bl on, .bl mi, .bl (lvl I home i)] H4 Q2 E0 := by
          rintro bo on rfl rfl Q2 q
          refine ⟨ri, _, _, mi, _, rfl, iru, fun H5 s5 => ?_⟩
          have := q H5 s5
          rw [el, Bool.false_or] at this
          exact this
        have last : ∀ H5, Same H4 H5 → (upd H5 l (.lst ((outs I home i).map V.bl ++ [.bl (lvl I home (i + 1))]))) l = some (.lst ((outs I home (i + 1)).map V.bl)) := fun H5 s5 => by
          rw [upd_same, outs_succ, List.map_append]
          rfl
        have keep : ∀ H5, Same H4 H5 → Same H (upd H5 l (.lst ((outs I home i).map V.bl ++ [.bl (lvl I home (i + 1))]))) := fun H5 s5 c o e => by
          rw [upd_ne (ne_of_none e hl)]
          exact s5 _ _ (s4 _ _ e)
        cases h1 : hasI I.md i
        · refine ⟨_, rfl, false, rfl, _, rfl, _, rfl, _, rfl, ms, _, _, _, rfl, rfl, J.ss, atI_nat (map_at em), _, rfl, ?_⟩
          dsimp only [tCons, tC, tNil, List.append_nil]
          refine fin _ _ (by simp [h1]) (by simp [h1]) fun H5 s5 => ?_
          exact ⟨_, rfl, .inl ⟨rfl, _, SqL.of (s5 _ _ e4)⟩, _, rfl, l, _, _, rfl, rfl, s5 _ _ e4, lz, _, _, _, _, rfl, keep H5 s5, last H5 s5⟩
        · refine ⟨_, rfl, _, rfl, true, rfl, _, rfl, _, rfl, ms, _, _, _, rfl, rfl, J.ss, atI_nat (map_at em), _, rfl, ?_⟩
          dsimp only [tCons, tC, tNil, List.append_nil]
          refine fin _ _ (by simp [h1]) (by simp [h1]) fun H5 s5 => ?_
          exact ⟨_, rfl, .inl ⟨rfl, _, SqL.of (s5 _ _ e4)⟩, _, rfl, l, _, _, rfl, rfl, s5 _ _ e4, lz, _, _, _, _, rfl, keep H5 s5, last H5 s5⟩
      · rw [Bool.true_or] at el
        have e0 : ([some (.ref r), some (.ref md), some (.ref ot), some (.ref ms), some (.ref sm), some (.bl home), some (.ref l), some (.bl true), some (.int (i : Nat)), some (.str ri), some (.bl (hasI I.md i)), some (.bl (hasI I.ot i))] : L2.St) = [some (.ref r), some (.ref md), some (.ref ot), some (.ref ms), some (.ref sm), some (.bl home), some (.ref l), some (.bl (lvl I home (i + 1))), some (.int (i : Nat)), some (.str ri), some (.bl (hasI I.md i)), some (.bl (hasI I.ot i))] := by rw [el]
        refine ⟨_, rfl, .inl ⟨rfl, _, SqL.of e4⟩, _, rfl, l, _, _, rfl, rfl, e4, lz, _, _, _, _, e0, fun c o e => ?_, ?_⟩
        · rw [upd_ne (ne_of_none e hl)]
          exact s4 _ _ e
        · rw [upd_same, outs_succ, List.map_append, el]
          rfl
    · rintro σ H3 ⟨y8, y9, y10, y11, rfl, s3, e3⟩
      refine ⟨_, rfl, l, _, rfl, .inl ⟨SqL.of e3, fun t ht => ?_⟩⟩
      have htH : H t = none := by
        cases e : H t with
        | none => rfl
        | some o =>
          rw [s3 _ _ e] at ht
          cases ht
      rw [List.length_map, hI.lr] at *
      exact k t _ (s3.trans (same_new ht)) htH upd_same
end
end Wq
set_option Elab.async false
set_option linter.all false
set_option maxRecDepth 100000
set_option maxHeartbeats 4000000
namespace Wq
open PySem PySem.Spec PyProof.Rows L2
/-! ## bools as data -/
theorem bools_lay : ∀ bs : List Bool, PyData.canLayAll0 (bs.map PyData.bool) = true ∧ PyData.depthAll (bs.map PyData.bool) ≤ 1
  | [] => ⟨rfl, by simp [PyData.depthAll]⟩
  | b :: r => by
    obtain ⟨h1, h2⟩ := bools_lay r
    refine ⟨?_, ?_⟩
    · show ((PyData.bool b).canLay0 && PyData.canLayAll0 (r.map PyData.bool)) = true
      rw [h1]
      rfl
    · simp only [List.map_cons, PyData.depthAll, PyData.depth]
      omega
theorem bools_sh (bs : List Bool) : SeqAt.shaped (.tuple (bs.map PyData.bool)) = true := by
  obtain ⟨h1, h2⟩ := bools_lay bs
  simp only [SeqAt.shaped, Bool.and_eq_true, decide_eq_true_eq]
  refine ⟨h1, ?_⟩
  show PyData.depthAll (bs.map PyData.bool) + 1 ≤ 64
  omega
theorem bools_eqv (bs : List Bool) : PyData.eqv (.tuple (bs.map PyData.bool)) (.tuple (bs.map PyData.bool)) = true :=
  SeqAt.eqv_refl _ (SeqAt.canLay_of_shaped (bools_sh bs))
theorem bools_dp {K : PySem.W.Frag} {H : Hp} : ∀ bs : List Bool, DpAll K H (bs.map V.bl) (bs.map PyData.bool)
  | [] => .nil
  | b :: r => .cons (.bl b) (bools_dp r)
theorem boot_isi : bootBuiltins "isinstance" = some (.builtin "isinstance") := by decide +kernel
theorem boot_ttuple : bootBuiltins "tuple" = some (.type "tuple") := by decide +kernel
theorem boot_tbool : bootBuiltins "bool" = some (.type "bool") := by decide +kernel
/-! ## slots of the law -/
def nmLaw : List Str := ["_law_script", "_law_place", "_law_source_here", "_law_turn", "_law_size", "_law_rules", "_law_made_here", "_law_others", "_law_memos", "_law_own_same", "_law_own_home", "_law_none", "_law_told", "_law_due_here", "_law_mine", "_law_theirs", "_law_travel", "_law_flag"]
theorem len18 {σ : L2.St} (h : σ.length = 18) : ∃ y0 y1 y2 y3 y4 y5 y6 y7 y8 y9 y10 y11 y12 y13 y14 y15 y16 y17, σ = [y0, y1, y2, y3, y4, y5, y6, y7, y8, y9, y10, y11, y12, y13, y14, y15, y16, y17] :=
  match σ, h with
  | [y0, y1, y2, y3, y4, y5, y6, y7, y8, y9, y10, y11, y12, y13, y14, y15, y16, y17], _ => ⟨y0, y1, y2, y3, y4, y5, y6, y7, y8, y9, y10, y11, y12, y13, y14, y15, y16, y17, rfl⟩
/-- the pairs that are compared: two tuples of the same bools -/
def Twins (H : Hp) (n : Nat) (x y : V) : Prop := ∃ (b a : Addr) (O : List Bool), x = .ref b ∧ y = .ref a ∧ O.length = n ∧ H b = some (.tup (O.map V.bl)) ∧ H a = some (.tup (O.map V.bl))
theorem Twins.same {H H' : Hp} {n : Nat} {x y : V} (h : Twins H n x y) (s : Same H H') : Twins H' n x y := by
  obtain ⟨b, a, O, e1, e2, e3, e4, e5⟩ := h
  exact ⟨b, a, O, e1, e2, e3, s _ _ e4, s _ _ e5⟩
section
variable {P : Program} {w : World} {K : PySem.W.Frag} {mg : Str → Option Value} {base : Heap}
abbrev sLaw : Stmt := top 11
abbrev body1 : List Stmt := loopBody ((defBody sLaw).getD 0 (.Pass ⟨0, 0, 0, 0⟩))
abbrev body2 : List Stmt := loopBody (body1.getD 1 (.Pass ⟨0, 0, 0, 0⟩))
abbrev body3 : List Stmt := loopBody (body2.getD 10 (.Pass ⟨0, 0, 0, 0⟩))
theorem scLaw : FnScope ["_law_script", "_law_place", "_law_source_here", "_law_turn", "_law_size", "_law_rules", "_law_made_here", "_law_others", "_law_memos", "_law_own_same", "_law_own_home", "_law_none", "_law_told", "_law_due_here", "_law_mine", "_law_theirs", "_law_travel", "_law_flag"] ["_law_script"] (defScope sLaw) := ⟨rfl, rfl, rfl, by decide +kernel, rfl, by decide +kernel, by decide +kernel⟩
abbrev cxLaw (P : Program) (w : World) (K : PySem.W.Frag) (mg : Str → Option Value) (base : Heap) (f : Addr) (cdv : Value) (A : Around) (outer : List Env) (s : Shared) (H : Hp) (E : XK) : Cx :=
  (cxOf CX0 P w K mg base ["_law_script", "_law_place", "_law_source_here", "_law_turn", "_law_size", "_law_rules", "_law_made_here", "_law_others", "_law_memos", "_law_own_same", "_law_own_home", "_law_none", "_law_told", "_law_due_here", "_law_mine", "_law_theirs", "_law_travel", "_law_flag"] "law" (defScope sLaw) f cdv A outer s H E).nox
/-- one pair compared -/
theorem law_pair {f : Addr} {cdv : Value} {A : Around} {outer : List Env} {s : Shared} {H0 : Hp} {E : XK} (B : Bn mg) (hu : (A.deeper (envOfC "law" (defScope sLaw) s.heap.objs.size f cdv)).units + 64 < cLine) :
    ∃ t, PSs (cxLaw P w K mg base f cdv A outer s H0 E) body3 t ∧
      ∀ (D : Ends) (n : Nat) (x y : V) (H : Hp) (y0 y1 y2 y3 y5 y6 y7 y8 y9 y10 y11 y12 y13 y16 y17 : Option V), n ≤ 4 → Twins H n x y →
        (∀ H', Same H H' → D.nx [y0, y1, y2, y3, some (.int n), y5, y6, y7, y8, y9, y10, y11, y12, y13, some x, some y, y16, y17] H') →
        t D [y0, y1, y2, y3, some (.int n), y5, y6, y7, y8, y9, y10, y11, y12, y13, some x, some y, y16, y17] H := by
  refine ⟨_, pss_cons (ps_if (PW.pt (pw_or (pt_not (pt_val (pe_callB call_isi (by rfl) B.isinstance boot_isi (pa_cons (pv 15) (pa_cons (pe_bltn (v := .ty "tuple") (by rfl) B.tuple boot_ttuple rfl) pa_nil)))))
        (pw_or1 (pt_cmpR op_ne (pe_callB call_len_seq (by rfl) B.len PySem.boot_len (pa_cons (pv 15) pa_nil)) (pv 4) (nomark _)))))
      (pss_one (ps_ret pe_bl)) pss_nil)
    (pss_one (ps_if (PW.pt (pw_or (pt_cmpR (op_neD hu) (pe_lc (own := [("_law_flag", 17)]) (g := gName 17) (te := tVar 17) (tt := tNot (tB (tCB (rIsi K) (tCons (tVar 17) (tCons (tC (.ty "bool")) tNil))))) rfl scLaw.nd (pi_tup (pv 15))
          (blkOk_by (N := ["_law_script", "_law_place", "_law_source_here", "_law_turn", "_law_size", "_law_rules", "_law_made_here", "_law_others", "_law_memos", "_law_own_same", "_law_own_home", "_law_none", "_law_told", "_law_due_here", "_law_mine", "_law_theirs", "_law_travel", "_law_flag"]) (sc := defScope sLaw) (by decide +kernel)) (fun _ _ _ _ _ => pg_name (i := 17) scLaw.nd rfl (Or.inl rfl))
          (fun _ _ _ _ _ => pts_one (pt_not (pt_val (pe_callB call_isi (by rfl) B.isinstance boot_isi (pa_cons (pv 17) (pa_cons (pe_bltn (v := .ty "bool") (by rfl) B.bool boot_tbool rfl) pa_nil))))))
          (fun _ _ _ _ _ => pv 17)) (pe_lst pa_nil) (nomark _))
        (pw_or1 (pt_cmpR (op_neD hu) (pv 14) (pv 15) (nomark _)))))
      (pss_one (ps_ret pe_bl)) pss_nil)), ?_⟩
  intro D n x y H y0 y1 y2 y3 y5 y6 y7 y8 y9 y10 y11 y12 y13 y16 y17 n4 hT k
  obtain ⟨b, a, O, rfl, rfl, lO, eb, ea⟩ := hT
  refine ⟨_, rfl, .ref a, .ty "tuple", .type "tuple", .type "tuple", true, rfl, .ty _, .base (.tup ea), kit_ty (by decide +kernel), _, rfl, ?_⟩
  refine ⟨_, rfl, a, _, rfl, .inr (SqT.of ea), _, rfl, rfl, _, rfl, ?_⟩
  rw [show (!decide (V.int ((O.map V.bl).length : Nat) = V.int (n : Nat))) = false by rw [List.length_map, lO, decide_eq_true rfl]; rfl]
  refine ⟨_, rfl, a, rfl, ⟨_, SqT.of ea⟩, fun D hD => ?_⟩
  refine lc_it (walk_tup (xs := O.map V.bl)) (fun i H' => Same H H' ∧ H' D = some (.lst [])) ⟨same_new hD, upd_same⟩ (fun i H' _ q => SqT.of (q.1 _ _ ea)) ?_ ?_
  · rintro i v H1 H2 hi ⟨sm, eD⟩ ⟨rfl, hv⟩
    obtain ⟨c, rfl⟩ : ∃ c, v = .bl c := by
      rw [List.getElem?_map] at hv
      cases e : O[i]? with
      | none =>
        rw [e] at hv
        cases hv
      | some c =>
        rw [e] at hv
        exact ⟨c, (Option.some.inj hv).symm⟩
    refine ⟨rfl, _, rfl, .bl c, .ty "bool", .type "bool", .type "bool", true, rfl, .ty _, .base (.bl c), kit_ty (by decide +kernel), _, rfl, ?_⟩
    exact ⟨sm, eD⟩
  · rintro H1 ⟨sm, eD⟩
    refine ⟨Nat.zero_le _, fun q hq => ?_⟩
    have s2 := same_new (o := HO.lst []) hq
    have eD2 := s2 _ _ eD
    refine ⟨.list [], .list [], .lst (SqL.of eD2) .nil, .lst (SqL.of upd_same) .nil, rfl, rfl, _, rfl, ?_⟩
    have s3 := sm.trans s2
    generalize upd H1 q (.lst []) = H3 at s2 s3 eD2
    rw [show (!PyData.eqv (.list []) (.list [])) = false by decide +kernel]
    refine ⟨_, rfl, _, rfl, .tuple (O.map PyData.bool), .tuple (O.map PyData.bool), .tup (SqT.of (s3 _ _ eb)) (bools_dp O), .tup (SqT.of (s3 _ _ ea)) (bools_dp O), bools_sh O, bools_sh O, _, rfl, ?_⟩
    rw [bools_eqv]
    exact k _ s3
end
end Wq
set_option Elab.async false
set_option linter.all false
set_option maxRecDepth 100000
set_option maxHeartbeats 4000000
namespace Wq
open PySem PySem.Spec PyProof.Rows L2
theorem rep_succ (n : Nat) : (List.replicate n false).map V.bl ++ [V.bl false] = (List.replicate (n + 1) false).map V.bl := by
  rw [List.replicate_succ', List.map_append]
  rfl
theorem mem_rep {n : Nat} : ∀ b ∈ List.replicate n false, b = false := fun b h => (List.mem_replicate.mp h).2
section
variable {P : Program} {w : World} {K : PySem.W.Frag} {mg : Str → Option Value} {base : Heap}
/-- meeting as the law calls it: its keyword-only names left out, or one of them given -/
structure KnownM (P : Program) (w : World) (K : PySem.W.Frag) (mg : Str → Option Value) (base : Heap) (f : Addr) (fd : FuncData) (ds : List Value) (gh gs : List Value → List Value → List Value) : Prop where
  ok : FnOk P w K mg base CX0 2 f fd ["rules", "made", "others", "memos", "same", "home"] (spMeeting K)
  mg : mg "meeting" = some (.ref f)
  kp : PySem.W.keepIn K (.ref f) = true
  vd : Vals [V.non, .bl true] ds
  bd : Binds K fd ["rules", "made", "others", "memos", "same", "home"] ds
  bh : KBn K fd ["rules", "made", "others", "memos", "same", "home"] 4 ["home"] gh (fun vs zs => vs ++ ([V.non] ++ zs))
  bs : KBn K fd ["rules", "made", "others", "memos", "same", "home"] 4 ["same"] gs (fun vs zs => vs ++ (zs ++ [V.bl true]))
/-- the rest of a turn: flags drawn, the program asked, the law's own reckoning, the pairs compared -/
theorem law_rest {f fF fD fM fU : Addr} {fdF fdD fdM fdU : FuncData} {ds : List Value} {gh gs : List Value → List Value → List Value} {cdv : Value} {A : Around} {outer : List Env} {s : Shared} {H0 : Hp} {E : XK} (B : Bn mg)
    (hr : Room 2 (A.deeper (envOfC "law" (defScope sLaw) s.heap.objs.size f cdv)))
    (FL : Known P w K mg base CX0 2 "_law_flags" ["_law_source_here", "_law_size"] spFlags fF fdF) (DR : Known P w K mg base CX0 1 "_law_draw" ["_law_source_here", "_law_many"] spDraw fD fdD)
    (M : KnownM P w K mg base fM fdM ds gh gs) (U : Known P w K mg base CX0 2 "_law_due" ["_law_rules", "_law_made_here", "_law_others", "_law_memos", "_law_own_same", "_law_own_home"] (spDue K) fU fdU) :
    ∃ t, PSs (cxLaw P w K mg base f cdv A outer s H0 E) (body2.drop 4) t ∧
      ∀ (D : Ends) (n m : Nat) (p r md ot : Addr) (rs : List Str) (mdl otl : List Int) (H : Hp) (y0 y1 y3 y8 y9 y10 y11 y12 y13 y14 y15 y16 y17 : Option V), n ≤ 4 → Sc p m H → m ≤ 1000 → rs.length = n → (∀ x ∈ rs, IsRule x) →
        SqT K H r (rs.map V.str) → SqT K H md (mdl.map V.int) → SqT K H ot (otl.map V.int) →
        (∀ σ' H', σ'.length = 18 → σ'[0]? = some y0 → σ'[2]? = some (some (.ref p)) → Gs p (m + 9) H H' → D.nx σ' H') →
        t D [y0, y1, some (.ref p), y3, some (.int n), some (.ref r), some (.ref md), some (.ref ot), y8, y9, y10, y11, y12, y13, y14, y15, y16, y17] H := by
  have hu : (A.deeper (envOfC "law" (defScope sLaw) s.heap.objs.size f cdv)).units + 64 < cLine := hr.units
  obtain ⟨tP, hP, qP⟩ := law_pair (P := P) (w := w) (K := K) (base := base) (f := f) (cdv := cdv) (A := A) (outer := outer) (s := s) (H0 := H0) (E := E) B hu
  refine ⟨_, pss_cons (ps_par3 (i := 8) (j := 9) (l := 10) rfl scLaw.nd rfl rfl rfl (by decide) (by decide) (by decide) rfl rfl rfl
      (pa_cons (pe_call FL.ok hr rfl FL.mg FL.kp FL.bi .nil pass0 (pa_cons (pv 2) (pa_cons (pv 4) pa_nil))) (pa_cons (pe_call FL.ok hr rfl FL.mg FL.kp FL.bi .nil pass0 (pa_cons (pv 2) (pa_cons (pv 4) pa_nil))) (pa_cons (pe_cmpR op_gt (pe_call DR.ok (hr.mono (by decide)) rfl DR.mg DR.kp DR.bi .nil pass0 (pa_cons (pv 2) (pa_cons pe_int pa_nil))) pe_int (nomark _)) pa_nil))) (by rfl))
    (pss_cons (ps_set (i := 11) scLaw.nd rfl (.inl rfl) (pe_callTy call_tuple_of (by rfl) B.tuple PyProof.Rows.boot_tuple (pa_cons (pe_lc (own := [("_law_travel", 16)]) (g := gName 16) (tt := tYes) (te := tC (.bl false)) rfl scLaw.nd (pi_range1 rfl B.range (pa_cons (pv 4) pa_nil))
        (blkOk_by (N := ["_law_script", "_law_place", "_law_source_here", "_law_turn", "_law_size", "_law_rules", "_law_made_here", "_law_others", "_law_memos", "_law_own_same", "_law_own_home", "_law_none", "_law_told", "_law_due_here", "_law_mine", "_law_theirs", "_law_travel", "_law_flag"]) (sc := defScope sLaw) (by decide +kernel)) (fun _ _ _ _ _ => pg_name (i := 16) scLaw.nd rfl (Or.inl rfl)) (fun _ _ _ _ _ => pts_nil) (fun _ _ _ _ _ => pe_bl)) pa_nil)))
    (pss_cons (ps_set (i := 12) scLaw.nd rfl (.inl rfl) (pe_lst (pa_cons (pe_call M.ok hr rfl M.mg M.kp M.bd M.vd pass0 (pa_cons (pv 5) (pa_cons (pv 6) (pa_cons (pv 7) (pa_cons (pv 8) pa_nil)))))
        (pa_cons (pe_callN M.ok hr rfl M.mg M.kp M.bh pass0 (pa_cons (pv 5) (pa_cons (pv 6) (pa_cons (pv 7) (pa_cons (pv 8) pa_nil)))) (pk_cons (pv 10) pk_nil)) pa_nil))))
    (pss_cons (ps_set (i := 12) scLaw.nd rfl (.inl rfl) (pe_op op_cat (pv 12) (pe_lst (pa_cons (pe_callN M.ok hr rfl M.mg M.kp M.bs pass0 (pa_cons (pv 5) (pa_cons (pv 6) (pa_cons (pv 7) (pa_cons (pv 8) pa_nil)))) (pk_cons (pv 9) pk_nil)) pa_nil))))
    (pss_cons (ps_set (i := 13) scLaw.nd rfl (.inl rfl) (pe_lst (pa_cons (pe_call U.ok hr rfl U.mg U.kp U.bi .nil pass0 (pa_cons (pv 5) (pa_cons (pv 6) (pa_cons (pv 7) (pa_cons (pv 8) (pa_cons (pv 11) (pa_cons pe_bl pa_nil)))))))
        (pa_cons (pe_call U.ok hr rfl U.mg U.kp U.bi .nil pass0 (pa_cons (pv 5) (pa_cons (pv 6) (pa_cons (pv 7) (pa_cons (pv 8) (pa_cons (pv 11) (pa_cons (pv 10) pa_nil))))))) pa_nil))))
    (pss_cons (ps_set (i := 13) scLaw.nd rfl (.inl rfl) (pe_op op_cat (pv 13) (pe_lst (pa_cons (pe_call U.ok hr rfl U.mg U.kp U.bi .nil pass0 (pa_cons (pv 5) (pa_cons (pv 6) (pa_cons (pv 7) (pa_cons (pv 8) (pa_cons (pv 9) (pa_cons pe_bl pa_nil))))))) pa_nil))))
    (pss_one (ps_for PassesOwn.never rfl (pi_zip (by rfl) B.zip (pa_cons (pv 13) (pa_cons (pv 12) pa_nil)))
        (pg_tup rfl (pgs_cons (pg_name (i := 14) scLaw.nd rfl (.inl rfl)) (pgs_cons (pg_name (i := 15) scLaw.nd rfl (.inl rfl)) pgs_nil))) hP))))))), ?_⟩
  intro D n m p r md ot rs mdl otl H y0 y1 y3 y8 y9 y10 y11 y12 y13 y14 y15 y16 y17 n4 S few lr iru sr sm so k
  -- memos, same, home
  refine ⟨_, rfl, _, rfl, p, m, n, rfl, S, by omega, n4, fun t8 bs8 H1 l8 n8 e8 g1 => ?_⟩
  refine ⟨_, rfl, _, rfl, p, m + 4, n, rfl, g1.sc, by omega, n4, fun t9 bs9 H2 l9 n9 e9 g2 => ?_⟩
  refine ⟨_, rfl, p, 3, m + 4 + 4, rfl, g2.sc, by omega, by decide, by decide, fun v H3 v0 v1 g3 => ?_⟩
  have e8' := g3.but _ _ (g2.sc.ne (g2.but _ _ (g1.sc.ne e8 (by intro a b c z; cases z)) e8) (by intro a b c z; cases z)) (g2.but _ _ (g1.sc.ne e8 (by intro a b c z; cases z)) e8)
  have e9' := g3.but _ _ (g2.sc.ne e9 (by intro a b c z; cases z)) e9
  have G : Gs p (m + 9) H H3 := (g1.trans g2).trans g3
  have sr3 := G.tup S sr
  have sm3 := G.tup S sm
  have so3 := G.tup S so
  refine ⟨_, _, rfl, rfl, _, _, _, rfl, ?_⟩
  -- none
  refine ⟨_, rfl, (n : Int), rfl, by omega, by omega, fun Dn hDn => ?_⟩
  have en : (n : Int).toNat = n := by omega
  rw [en]
  refine lc_it walk_range (fun i H' => Same H3 H' ∧ H' Dn = some (.lst ((List.replicate i false).map V.bl))) ⟨same_new hDn, upd_same⟩ (fun _ _ _ _ => trivial) ?_ ?_
  · rintro i y H5 H6 hi ⟨sm5, eD⟩ ⟨rfl, rfl⟩
    refine ⟨rfl, _, eD, ?_, fun c o e => ?_, ?_⟩
    · rw [List.length_map, List.length_replicate, sizeLine_eq]
      omega
    · rw [upd_ne (ne_of_none e hDn)]
      exact sm5 _ _ e
    · rw [upd_same, rep_succ]
  rintro H5 ⟨sm5, eD⟩
  refine ⟨Dn, _, rfl, .inl ⟨SqL.of eD, fun tn htn => ?_⟩⟩
  have sN : Same H3 (upd H5 tn (.tup ((List.replicate n false).map V.bl))) := sm5.trans (same_new htn)
  have eN : (upd H5 tn (.tup ((List.replicate n false).map V.bl))) tn = some (.tup ((List.replicate n false).map V.bl)) := upd_same
  generalize upd H5 tn (.tup ((List.replicate n false).map V.bl)) = H6 at sN eN
  have I0 : InpAt K H6 ⟨rs, mdl, otl, bs8, List.replicate n false⟩ n r md ot t8 := ⟨tup_same sN sr3, tup_same sN sm3, tup_same sN so3, SqT.of (sN _ _ e8'), lr, l8, List.length_replicate, n4, iru⟩
  have I1 : InpAt K H6 ⟨rs, mdl, otl, bs8, bs9⟩ n r md ot t8 := ⟨tup_same sN sr3, tup_same sN sm3, tup_same sN so3, SqT.of (sN _ _ e8'), lr, l8, l9, n4, iru⟩
  have q9 : SqT K H6 t9 (bs9.map V.bl) := SqT.of (sN _ _ e9')
  have qN : SqT K H6 tn ((List.replicate n false).map V.bl) := SqT.of eN
  -- told: the program is asked
  refine ⟨_, rfl, _, rfl, _, rfl, _, rfl, ?_⟩
  dsimp only [tCons, tC, tNil, List.append_nil]
  refine ⟨_, n, r, md, ot, t8, .non, true, rfl, I0, .inl ⟨rfl, mem_rep⟩, fun a1 H7 s7 na1 ea1 => ?_⟩
  refine ⟨_, rfl, _, rfl, _, rfl, _, rfl, _, rfl, rfl, rfl, ?_⟩
  refine ⟨_, n, r, md, ot, t8, .non, _, rfl, I0.same s7, .inl ⟨rfl, mem_rep⟩, fun a2 H8 s8 na2 ea2 => ?_⟩
  refine ⟨by show 2 ≤ sizeLine; decide, fun l1 nl1 => ?_⟩
  have s9 := same_new (o := HO.lst [.ref a1, .ref a2]) nl1
  refine ⟨_, rfl, _, rfl, _, rfl, _, rfl, _, rfl, _, rfl, rfl, rfl, ?_⟩
  refine ⟨_, n, r, md, ot, t8, .ref t9, true, rfl, ((I1.same s7).same s8).same s9, .inr ⟨t9, rfl, tup_same s9 (tup_same s8 (tup_same s7 q9))⟩, fun a3 H9 s10 na3 ea3 => ?_⟩
  refine ⟨by show 1 ≤ sizeLine; decide, fun l2 nl2 => ?_⟩
  have s11 := same_new (o := HO.lst [.ref a3]) nl2
  refine ⟨l1, l2, _, _, rfl, rfl, s11 _ _ (s10 _ _ upd_same), upd_same, by show 2 + 1 ≤ sizeLine; decide, fun l3 nl3 => ?_⟩
  have s12 := same_new (o := HO.lst ([.ref a1, .ref a2] ++ [.ref a3])) nl3
  have sA : Same H6 (upd (upd H9 l2 (.lst [.ref a3])) l3 (.lst ([.ref a1, .ref a2] ++ [.ref a3]))) := ((((s7.trans s8).trans s9).trans s10).trans s11).trans s12
  have eT : (upd (upd H9 l2 (.lst [.ref a3])) l3 (.lst ([.ref a1, .ref a2] ++ [.ref a3]))) l3 = some (.lst [.ref a1, .ref a2, .ref a3]) := upd_same
  have f1 := s12 _ _ (s11 _ _ (s10 _ _ (s9 _ _ (s8 _ _ ea1))))
  have f2 := s12 _ _ (s11 _ _ (s10 _ _ (s9 _ _ ea2)))
  have f3 := s12 _ _ (s11 _ _ ea3)
  generalize upd (upd H9 l2 (.lst [.ref a3])) l3 (.lst ([.ref a1, .ref a2] ++ [.ref a3])) = HA at sA eT f1 f2 f3
  -- due: the law's own reckoning
  refine ⟨_, rfl, _, rfl, _, rfl, _, rfl, _, rfl, ?_⟩
  dsimp only [tCons, tC, tNil, List.append_nil]
  refine ⟨_, n, r, md, ot, t8, tn, true, rfl, I0.same sA, tup_same sA qN, fun b1 HB sB nb1 eb1 => ?_⟩
  refine ⟨_, rfl, _, rfl, _, rfl, _, rfl, _, rfl, _, rfl, ?_⟩
  dsimp only [tCons, tC, tNil, List.append_nil]
  refine ⟨_, n, r, md, ot, t8, tn, _, rfl, (I0.same sA).same sB, tup_same sB (tup_same sA qN), fun b2 HC sC nb2 eb2 => ?_⟩
  refine ⟨by show 2 ≤ sizeLine; decide, fun k1 nk1 => ?_⟩
  have sD := same_new (o := HO.lst [.ref b1, .ref b2]) nk1
  refine ⟨_, rfl, _, rfl, _, rfl, _, rfl, _, rfl, _, rfl, ?_⟩
  dsimp only [tCons, tC, tNil, List.append_nil]
  refine ⟨_, n, r, md, ot, t8, t9, true, rfl, (((I1.same sA).same sB).same sC).same sD, tup_same sD (tup_same sC (tup_same sB (tup_same sA q9))), fun b3 HE sE nb3 eb3 => ?_⟩
  refine ⟨by show 1 ≤ sizeLine; decide, fun k2 nk2 => ?_⟩
  have sF := same_new (o := HO.lst [.ref b3]) nk2
  refine ⟨k1, k2, _, _, rfl, rfl, sF _ _ (sE _ _ upd_same), upd_same, by show 2 + 1 ≤ sizeLine; decide, fun k3 nk3 => ?_⟩
  have sG := same_new (o := HO.lst ([.ref b1, .ref b2] ++ [.ref b3])) nk3
  have sH : Same HA (upd (upd HE k2 (.lst [.ref b3])) k3 (.lst ([.ref b1, .ref b2] ++ [.ref b3]))) := ((((sB.trans sC).trans sD).trans sE).trans sF).trans sG
  have eU : (upd (upd HE k2 (.lst [.ref b3])) k3 (.lst ([.ref b1, .ref b2] ++ [.ref b3]))) k3 = some (.lst [.ref b1, .ref b2, .ref b3]) := upd_same
  have h1 := sG _ _ (sF _ _ (sE _ _ (sD _ _ (sC _ _ eb1))))
  have h2 := sG _ _ (sF _ _ (sE _ _ (sD _ _ eb2)))
  have h3 := sG _ _ (sF _ _ eb3)
  generalize upd (upd HE k2 (.lst [.ref b3])) k3 (.lst ([.ref b1, .ref b2] ++ [.ref b3])) = HZ at sH eU h1 h2 h3
  have eT2 := sH _ _ eT
  have t1 : Twins HZ n (.ref b1) (.ref a1) := ⟨b1, a1, _, rfl, rfl, outs_len _ _ _, h1, sH _ _ f1⟩
  have t2 : Twins HZ n (.ref b2) (.ref a2) := ⟨b2, a2, _, rfl, rfl, outs_len _ _ _, h2, sH _ _ f2⟩
  have t3 : Twins HZ n (.ref b3) (.ref a3) := ⟨b3, a3, _, rfl, rfl, outs_len _ _ _, h3, sH _ _ f3⟩
  have GZ : Gs p (m + 9) H HZ := (G.same sN).same (sA.trans sH)
  -- the pairs
  refine ⟨_, rfl, _, rfl, k3, l3, _, _, rfl, SqL.of eU, SqL.of eT2, ?_⟩
  have tw : ∀ (i : Nat) (x y : V), [V.ref b1, .ref b2, .ref b3][i]? = some x → [V.ref a1, .ref a2, .ref a3][i]? = some y → Twins HZ n x y := by
    intro i x y hx hy
    match i, hx, hy with
    | 0, hx, hy =>
      cases hx
      cases hy
      exact t1
    | 1, hx, hy =>
      cases hx
      cases hy
      exact t2
    | 2, hx, hy =>
      cases hx
      cases hy
      exact t3
    | i + 3, hx, hy => cases hx
  refine RZ.for_zipL (K := K) (xs := [.ref b1, .ref b2, .ref b3]) (ys := [.ref a1, .ref a2, .ref a3]) rfl
    (fun i σ H' => Same HZ H' ∧ ∃ x y, σ = [y0, y1, some (.ref p), y3, some (.int n), some (.ref r), some (.ref md), some (.ref ot), some (.ref t8), some (.ref t9), some (.bl (decide ((0 : Int) < v))), some (.ref tn), some (.ref l3), some (.ref k3), x, y, y16, y17])
    ⟨Same.refl HZ, _, _, rfl⟩ (fun i σ H' q => ⟨SqL.of (q.1 _ _ eU), SqL.of (q.1 _ _ eT2)⟩) ?_ ?_
  · rintro i x y T σ H' hx hy ⟨sm', x', y', rfl⟩ hT
    have sT := same_new (o := HO.tup [x, y]) hT
    refine ⟨T, [x, y], rfl, SqT.of upd_same, rfl, _, _, rfl, _, _, rfl, rfl, ?_⟩
    refine qP _ n x y _ _ _ _ _ _ _ _ _ _ _ _ _ _ _ _ n4 (((tw i x y hx hy).same sm').same sT) fun H'' s'' => ⟨(sm'.trans sT).trans s'', _, _, rfl⟩
  · rintro σ H' ⟨sm', x', y', rfl⟩
    exact k _ _ rfl rfl rfl (GZ.same sm')
end
end Wq
set_option Elab.async false
set_option linter.all false
set_option maxRecDepth 100000
set_option maxHeartbeats 4000000
namespace Wq
open PySem PySem.Spec PyProof.Rows L2
section
variable {P : Program} {w : World} {K : PySem.W.Frag} {mg : Str → Option Value} {base : Heap}
theorem law_turn {f fF fD fM fU fO fA : Addr} {fdF fdD fdM fdU fdO fdA : FuncData} {ds : List Value} {gh gs : List Value → List Value → List Value} {cdv : Value} {A : Around} {outer : List Env} {s : Shared} {H0 : Hp} {E : XK} (B : Bn mg)
    (hr : Room 2 (A.deeper (envOfC "law" (defScope sLaw) s.heap.objs.size f cdv)))
    (FL : Known P w K mg base CX0 2 "_law_flags" ["_law_source_here", "_law_size"] spFlags fF fdF) (DR : Known P w K mg base CX0 1 "_law_draw" ["_law_source_here", "_law_many"] spDraw fD fdD)
    (M : KnownM P w K mg base fM fdM ds gh gs) (U : Known P w K mg base CX0 2 "_law_due" ["_law_rules", "_law_made_here", "_law_others", "_law_memos", "_law_own_same", "_law_own_home"] (spDue K) fU fdU)
    (OF : Known P w K mg base CX0 2 "_law_of" ["_law_source_here", "_law_some"] (spOf K) fO fdO) (MD : Known P w K mg base CX0 2 "_law_made" ["_law_source_here", "_law_size"] spMade fA fdA) :
    ∃ t, PSs (cxLaw P w K mg base f cdv A outer s H0 E) body2 t ∧
      ∀ (D : Ends) (m : Nat) (p : Addr) (H : Hp) (y0 y1 y3 y4 y5 y6 y7 y8 y9 y10 y11 y12 y13 y14 y15 y16 y17 : Option V), Sc p m H → m ≤ 500 →
        (∀ σ' H', σ'.length = 18 → σ'[0]? = some y0 → σ'[2]? = some (some (.ref p)) → Gs p (m + 50) H H' → D.nx σ' H') →
        t D [y0, y1, some (.ref p), y3, y4, y5, y6, y7, y8, y9, y10, y11, y12, y13, y14, y15, y16, y17] H := by
  obtain ⟨tR, hR, qR⟩ := law_rest (P := P) (w := w) (K := K) (base := base) (f := f) (cdv := cdv) (A := A) (outer := outer) (s := s) (H0 := H0) (E := E) B hr FL DR M U
  refine ⟨_, pss_cons (ps_set (i := 4) scLaw.nd rfl (.inl rfl) (pe_op op_add pe_int (pe_call DR.ok (hr.mono (by decide)) rfl DR.mg DR.kp DR.bi .nil pass0 (pa_cons (pv 2) (pa_cons pe_int pa_nil)))))
    (pss_cons (ps_set (i := 5) scLaw.nd rfl (.inl rfl) (pe_callTy call_tuple_of (by rfl) B.tuple PyProof.Rows.boot_tuple (pa_cons (pe_lc (own := [("_law_travel", 16)]) (g := gName 16) (tt := tYes) (te := tCall (spOf K) [] E0 (tCons (tVar 2) (tCons (tLst (tCons (tC (.str "itself")) (tCons (tC (.str "itself")) (tCons (tC (.str "marks")) (tCons (tC (.str "never")) tNil))))) tNil))) rfl scLaw.nd (pi_range1 rfl B.range (pa_cons (pv 4) pa_nil))
        (blkOk_by (N := ["_law_script", "_law_place", "_law_source_here", "_law_turn", "_law_size", "_law_rules", "_law_made_here", "_law_others", "_law_memos", "_law_own_same", "_law_own_home", "_law_none", "_law_told", "_law_due_here", "_law_mine", "_law_theirs", "_law_travel", "_law_flag"]) (sc := defScope sLaw) (by decide +kernel)) (fun _ _ _ _ _ => pg_name (i := 16) scLaw.nd rfl (Or.inl rfl)) (fun _ _ _ _ _ => pts_nil)
        (fun _ _ _ _ _ => pe_call OF.ok hr rfl OF.mg OF.kp OF.bi .nil pass0 (pa_cons (pv 2) (pa_cons (pe_lst (pa_cons pe_str (pa_cons pe_str (pa_cons pe_str (pa_cons pe_str pa_nil))))) pa_nil)))) pa_nil)))
    (pss_cons (ps_par (i := 6) (j := 7) (by rfl) scLaw.nd rfl rfl (by decide) rfl rfl (pa_cons (pe_call MD.ok hr rfl MD.mg MD.kp MD.bi .nil pass0 (pa_cons (pv 2) (pa_cons (pv 4) pa_nil))) (pa_cons (pe_call MD.ok hr rfl MD.mg MD.kp MD.bi .nil pass0 (pa_cons (pv 2) (pa_cons (pv 4) pa_nil))) pa_nil)) (by rfl))
    (pss_cons (ps_if (pt_cmpR op_eq (pe_call DR.ok (hr.mono (by decide)) rfl DR.mg DR.kp DR.bi .nil pass0 (pa_cons (pv 2) (pa_cons pe_int pa_nil))) pe_int (nomark _)) (pss_one (ps_set (i := 7) scLaw.nd rfl (.inl rfl) (pv 6))) pss_nil)
    hR))), ?_⟩
  intro D m p H y0 y1 y3 y4 y5 y6 y7 y8 y9 y10 y11 y12 y13 y14 y15 y16 y17 S few k
  refine ⟨_, rfl, p, 4, m, rfl, S, by omega, by decide, by decide, fun v H1 v0 v1 g1 => ?_⟩
  obtain ⟨j, rfl⟩ := Int.eq_ofNat_of_zero_le v0
  have j3 : j ≤ 3 := by omega
  have ez : (1 + (j : Int)) = ((j + 1 : Nat) : Int) := by omega
  refine ⟨_, _, rfl, rfl, ?_⟩
  dsimp only
  rw [ez]
  have n4 : j + 1 ≤ 4 := by omega
  generalize j + 1 = n at n4
  -- rules
  refine ⟨_, rfl, (n : Int), rfl, by omega, by omega, fun Dn hDn => ?_⟩
  have en : (n : Int).toNat = n := by omega
  rw [en]
  have nD : Dn ≠ p := ne_of_none_r g1.sc hDn
  refine lc_it walk_range (fun i H' => Gs p (m + 1 + i) H1 H' ∧ ∃ rs : List Str, rs.length = i ∧ (∀ x ∈ rs, IsRule x) ∧ H' Dn = some (.lst (rs.map V.str))) ⟨(Gs.refl g1.sc).new hDn, [], rfl, fun x hx => (by cases hx), upd_same⟩ (fun _ _ _ _ => trivial) ?_ ?_
  · rintro i y H5 H6 hi ⟨go, rs, lr, iru, eD⟩ ⟨rfl, rfl⟩
    refine ⟨rfl, _, rfl, by show 4 ≤ sizeLine; decide, fun q hq => ?_⟩
    have go2 := go.new (o := HO.lst [.str "itself", .str "itself", .str "marks", .str "never"]) hq
    refine ⟨p, q, m + 1 + i, _, rfl, go2.sc, by omega, SqL.of upd_same, ne_of_none_r go.sc hq, by decide, by decide, fun x H7 hx g7 => ?_⟩
    have eD2 : (upd H6 q (.lst [.str "itself", .str "itself", .str "marks", .str "never"])) Dn = some (.lst (rs.map V.str)) := same_new hq _ _ eD
    obtain ⟨z, rfl, iz⟩ : ∃ z, x = .str z ∧ IsRule z := by
      simp only [List.mem_cons, List.not_mem_nil, or_false] at hx
      rcases hx with rfl | rfl | rfl | rfl
      · exact ⟨_, rfl, .inl rfl⟩
      · exact ⟨_, rfl, .inl rfl⟩
      · exact ⟨_, rfl, .inr (.inl rfl)⟩
      · exact ⟨_, rfl, .inr (.inr rfl)⟩
    refine ⟨_, g7.but _ _ nD eD2, ?_, (go2.trans g7).over hDn nD, rs ++ [z], by simp [lr], ?_, ?_⟩
    · rw [List.length_map, lr, sizeLine_eq]
      omega
    · intro x hx
      rcases List.mem_append.mp hx with hx | hx
      · exact iru x hx
      · rw [List.mem_singleton] at hx
        exact hx ▸ iz
    · rw [upd_same, List.map_append]
      rfl
  rintro H5 ⟨go, rs, lr, iru, eD⟩
  refine ⟨Dn, _, rfl, .inl ⟨SqL.of eD, fun r hr5 => ?_⟩⟩
  have g5 : Gs p (m + 1 + n) H (upd H5 r (.tup (rs.map V.str))) := (g1.trans go).new hr5
  have e5 : (upd H5 r (.tup (rs.map V.str))) r = some (.tup (rs.map V.str)) := upd_same
  generalize upd H5 r (.tup (rs.map V.str)) = H6 at g5 e5
  -- made, others
  refine ⟨_, rfl, _, rfl, p, m + 1 + n, n, rfl, g5.sc, by omega, n4, fun md mdl H7 n7 e7 g7 => ?_⟩
  refine ⟨_, rfl, _, rfl, p, m + 1 + n + 4, n, rfl, g7.sc, by omega, n4, fun ot otl H8 n8 e8 g8 => ?_⟩
  refine ⟨_, _, rfl, ?_⟩
  refine ⟨_, rfl, p, 2, m + 1 + n + 4 + 4, rfl, g8.sc, by omega, by decide, by decide, fun v9 H9 v90 v91 g9 => ?_⟩
  have G := ((g5.trans g7).trans g8).trans g9
  have q5 : SqT K H9 r (rs.map V.str) := ((g7.trans g8).trans g9).tup g5.sc (SqT.of e5)
  have q7 : SqT K H9 md (mdl.map V.int) := (g8.trans g9).tup g7.sc (SqT.of e7)
  have q8 : SqT K H9 ot (otl.map V.int) := g9.tup g8.sc (SqT.of e8)
  have fin : ∀ σ' H', σ'.length = 18 → σ'[0]? = some y0 → σ'[2]? = some (some (.ref p)) → Gs p (m + 1 + n + 4 + 4 + 1 + 9) H9 H' → D.nx σ' H' := fun σ' H' h1 h2 h3 h4 => k σ' H' h1 h2 h3 ((G.trans h4).le (by omega))
  refine ⟨rfl, _, rfl, ?_⟩
  refine ite2 (fun _ => ⟨_, rfl, ?_⟩) (fun _ => ?_)
  · exact qR D n (m + 1 + n + 4 + 4 + 1) p r md md rs mdl mdl H9 _ _ _ _ _ _ _ _ _ _ _ _ _ n4 g9.sc (by omega) lr iru q5 q7 q7 fin
  · exact qR D n (m + 1 + n + 4 + 4 + 1) p r md ot rs mdl otl H9 _ _ _ _ _ _ _ _ _ _ _ _ _ n4 g9.sc (by omega) lr iru q5 q7 q8 fin
/-! ## the law -/
def spLaw (K : PySem.W.Frag) : Sp := fun vs H Q _ => ∃ (a : Addr) (ns : List Int), vs = [.ref a] ∧ SqL K H a (ns.map V.int) ∧ ns.length ≤ 63 ∧ ∀ H', Q (.bl true) H'
theorem sqL_but {H H1 H2 : Hp} {a p : Addr} {xs : List V} (h : SqL K H a xs) (hp : H p = none) (s0 : Same H H1) (b : But p H1 H2) : SqL K H2 a xs := by
  rcases h with (h | ⟨o, h⟩) | h
  · exact .inl (.inl (b _ _ (ne_of_none h hp) (s0 _ _ h)))
  · exact .inl (.inr ⟨o, b _ _ (ne_of_none h hp) (s0 _ _ h)⟩)
  · exact .inr h
theorem ok_law {f fF fD fM fU fO fA fS : Addr} {fd fdF fdD fdM fdU fdO fdA fdS : FuncData} {ds : List Value} {gh gs : List Value → List Value → List Value} (F : Fun K "law" "law" sLaw f fd) (B : Bn mg)
    (FL : Known P w K mg base CX0 2 "_law_flags" ["_law_source_here", "_law_size"] spFlags fF fdF) (DR : Known P w K mg base CX0 1 "_law_draw" ["_law_source_here", "_law_many"] spDraw fD fdD)
    (M : KnownM P w K mg base fM fdM ds gh gs) (U : Known P w K mg base CX0 2 "_law_due" ["_law_rules", "_law_made_here", "_law_others", "_law_memos", "_law_own_same", "_law_own_home"] (spDue K) fU fdU)
    (OF : Known P w K mg base CX0 2 "_law_of" ["_law_source_here", "_law_some"] (spOf K) fO fdO) (MD : Known P w K mg base CX0 2 "_law_made" ["_law_source_here", "_law_size"] spMade fA fdA)
    (SR : Known P w K mg base CX0 1 "_law_source" ["_law_script", "_law_place"] (spSource K) fS fdS) : FnOk P w K mg base CX0 3 f fd ["_law_script"] (spLaw K) := by
  refine F.ok scLaw (fun vs H Q E h => ?_) (fun cdv A outer s H vs Q E hr h => ?_)
  · obtain ⟨a, ns, rfl, _⟩ := h
    rfl
  · obtain ⟨a, ns, rfl, hS, few, k⟩ := h
    obtain ⟨tT, hT, qT⟩ := law_turn (P := P) (w := w) (K := K) (base := base) (f := f) (cdv := cdv) (A := A) (outer := outer) (s := s) (H0 := H) (E := E) B hr FL DR M U OF MD
    refine ⟨_, pss_cons (ps_for PassesOwn.never rfl (pi_range1 (by rfl) B.range (pa_cons (pe_callB (call_max2 rfl) (by rfl) B.max (by decide +kernel) (pa_cons pe_int (pa_cons (pe_callB (call_min2 rfl) (by rfl) B.min (by decide +kernel) (pa_cons pe_int (pa_cons (pe_callB call_len_seq (by rfl) B.len PySem.boot_len (pa_cons (pv 0) pa_nil)) pa_nil))) pa_nil))) pa_nil)) (pg_name (i := 1) scLaw.nd rfl (.inl rfl))
        (pss_cons (ps_set (i := 2) scLaw.nd rfl (.inr rfl) (pe_call SR.ok (hr.mono (by decide)) rfl SR.mg SR.kp SR.bi .nil pass0 (pa_cons (pv 0) (pa_cons (pv 1) pa_nil))))
        (pss_one (ps_for PassesOwn.never rfl (pi_range1 (by rfl) B.range (pa_cons pe_int pa_nil)) (pg_name (i := 3) scLaw.nd rfl (.inl rfl)) hT))))
      (pss_one (ps_ret pe_bl)), ?_⟩
    refine ⟨_, rfl, a, _, rfl, .inl hS, _, _, rfl, _, _, rfl, _, rfl, ?_, ?_, ?_⟩
    · split <;> (try split) <;> omega
    · split <;> (try split) <;> omega
    refine for_range (fun i σ H' => σ.length = 18 ∧ σ[0]? = some (some (.ref a)) ∧ SqL K H' a (ns.map V.int)) ⟨rfl, rfl, hS⟩ ?_ ?_
    · rintro i σ H1 hi ⟨l18, e0, sq⟩
      obtain ⟨y0, y1, y2, y3, y4, y5, y6, y7, y8, y9, y10, y11, y12, y13, y14, y15, y16, y17, rfl⟩ := len18 l18
      cases e0
      refine ⟨_, rfl, _, rfl, a, ns, _, rfl, sq, few, by omega, fun p H2 s2 hp S => ?_⟩
      refine ⟨_, rfl, by decide, by decide, ?_⟩
      refine for_range (fun i σ H' => σ.length = 18 ∧ σ[0]? = some (some (.ref a)) ∧ σ[2]? = some (some (.ref p)) ∧ Gs p (50 * i) H2 H') ⟨rfl, rfl, rfl, Gs.refl S⟩ ?_ ?_
      · rintro i2 σ H3 hi2 ⟨l18, e0, e2, g⟩
        obtain ⟨z0, z1, z2, z3, z4, z5, z6, z7, z8, z9, z10, z11, z12, z13, z14, z15, z16, z17, rfl⟩ := len18 l18
        cases e0
        cases e2
        have i3 : i2 < 3 := hi2
        exact qT _ (50 * i2) p H3 _ _ _ _ _ _ _ _ _ _ _ _ _ _ _ _ _ g.sc (by omega) fun σ' H' h1 h2 h3 h4 => ⟨h1, h2, h3, (g.trans h4).le (by omega)⟩
      · rintro σ H3 ⟨l18, e0, e2, g⟩
        exact ⟨l18, e0, sqL_but sq hp s2 g.but⟩
    · rintro σ H1 ⟨l18, e0, sq⟩
      exact k _
end
end Wq
set_option Elab.async false
set_option linter.all false
set_option maxRecDepth 100000
set_option maxHeartbeats 0
namespace Wq
open PySem PySem.Spec PyProof.Rows L2
/-! ## the head: facts by names -/
def dd (x : Str) (i : Nat) : He.DefD := ⟨(x, none), x, x, defArgs (top i), defBody (top i), defScope (top i), [], []⟩
def dMeeting : He.DefD := ⟨("meeting", none), "meeting", "meeting", defArgs (top 2), defBody (top 2), defScope (top 2), [], [("same", .non), ("home", .bl true)]⟩
def fn : List He.DefD := [dd "_meets" 1, dMeeting, dd "_law_source" 4, dd "_law_draw" 5, dd "_law_of" 6, dd "_law_made" 7, dd "_law_flags" 8, dd "_law_level" 9, dd "_law_due" 10, dd "law" 11]
def fa : List He.Fa := [.glo "_meets", .glo "meeting", .glo "_law_source", .glo "_law_draw", .glo "_law_of", .glo "_law_made", .glo "_law_flags", .glo "_law_level", .glo "_law_due", .glo "law",
  .free "int", .free "len", .free "abs", .free "range", .free "tuple", .free "max", .free "min", .free "zip", .free "enumerate", .free "isinstance", .free "bool"]
abbrev R : PySem.W.OpenRow := PySem.W.OpenLaw.row PySem.Challenge.rw_waypairs_k49_meetings
abbrev hk : PySem.W.Hook := He.hookD 4 fa fn
def ob (s : PySem.W.SharedT) : He.AlD := He.obsDG 4 fa fn (HandSHeadRun.getT s)
theorem ob_eq (s : PySem.W.SharedT) : ob s = hk.obs s.abs := He.obsDG_eq (HandSHeadRun.getT_eq s)
theorem run (w : World) : HandSHeadRun.RunEq R (PySem.W.view R.prog [11]) hk ob 2000 ["_meets", "meeting", "_law_source", "_law_draw", "_law_of", "_law_made", "_law_flags", "_law_level", "_law_due"] w := by
  intro os
  kernel_rfl
theorem facts {P : Program} {w : World} {K : PySem.W.Frag} {h : Heap} {mg : Str → Option Value} {f : Addr} (X : K.In h) (G : h.Ns mainGlobals mg) (hfa : mg ("law" : Str) = some (.ref f)) (c : He.SaysD fa fn K) :
    ∃ fd : FuncData, (∀ (s : Shared) (v : Value), BindsTo s fd ⟨[v], []⟩ [("_law_script", v)]) ∧ ∀ base : Heap, K.In base → base.Ns mainGlobals mg → FnOk P w K mg base CX0 3 f fd ["_law_script"] (spLaw K) := by
  obtain ⟨fd0, F0⟩ := c.def_ 0 (d := dd "_meets" 1) rfl
  obtain ⟨fd1, F1⟩ := c.def_ 1 (d := dMeeting) rfl
  obtain ⟨fd2, F2⟩ := c.def_ 2 (d := dd "_law_source" 4) rfl
  obtain ⟨fd3, F3⟩ := c.def_ 3 (d := dd "_law_draw" 5) rfl
  obtain ⟨fd4, F4⟩ := c.def_ 4 (d := dd "_law_of" 6) rfl
  obtain ⟨fd5, F5⟩ := c.def_ 5 (d := dd "_law_made" 7) rfl
  obtain ⟨fd6, F6⟩ := c.def_ 6 (d := dd "_law_flags" 8) rfl
  obtain ⟨fd7, F7⟩ := c.def_ 7 (d := dd "_law_level" 9) rfl
  obtain ⟨fd8, F8⟩ := c.def_ 8 (d := dd "_law_due" 10) rfl
  obtain ⟨fd9, F9⟩ := c.def_ 9 (d := dd "law" 11) rfl
  have e := hfa.symm.trans (He.glo_ok X G (c.fact 9 (f := .glo "law") rfl))
  cases e
  have B : Bn mg := ⟨He.free_ok X G (c.fact 10 (f := .free "int") rfl), He.free_ok X G (c.fact 11 (f := .free "len") rfl), He.free_ok X G (c.fact 12 (f := .free "abs") rfl), He.free_ok X G (c.fact 13 (f := .free "range") rfl), He.free_ok X G (c.fact 14 (f := .free "tuple") rfl), He.free_ok X G (c.fact 15 (f := .free "max") rfl), He.free_ok X G (c.fact 16 (f := .free "min") rfl), He.free_ok X G (c.fact 17 (f := .free "zip") rfl), He.free_ok X G (c.fact 18 (f := .free "enumerate") rfl), He.free_ok X G (c.fact 19 (f := .free "isinstance") rfl), He.free_ok X G (c.fact 20 (f := .free "bool") rfl)⟩
  have b := FunD.bindsA (ps := ["_law_script"]) F9 fun _ _ _ _ _ _ us hl => match us, hl with | [_], _ => rfl
  have b0 := FunD.bindsN (ps := ["rule", "memo", "before"]) F0 fun _ _ _ _ _ _ us hl => match us, hl with | [_, _, _], _ => rfl
  have b2 := FunD.bindsN (ps := ["_law_script", "_law_place"]) F2 fun _ _ _ _ _ _ us hl => match us, hl with | [_, _], _ => rfl
  have b3 := FunD.bindsN (ps := ["_law_source_here", "_law_many"]) F3 fun _ _ _ _ _ _ us hl => match us, hl with | [_, _], _ => rfl
  have b4 := FunD.bindsN (ps := ["_law_source_here", "_law_some"]) F4 fun _ _ _ _ _ _ us hl => match us, hl with | [_, _], _ => rfl
  have b5 := FunD.bindsN (ps := ["_law_source_here", "_law_size"]) F5 fun _ _ _ _ _ _ us hl => match us, hl with | [_, _], _ => rfl
  have b6 := FunD.bindsN (ps := ["_law_source_here", "_law_size"]) F6 fun _ _ _ _ _ _ us hl => match us, hl with | [_, _], _ => rfl
  have b7 := FunD.bindsN (ps := ["_law_rule", "_law_both", "_law_one", "_law_memo", "_law_before"]) F7 fun _ _ _ _ _ _ us hl => match us, hl with | [_, _, _, _, _], _ => rfl
  have b8 := FunD.bindsN (ps := ["_law_rules", "_law_made_here", "_law_others", "_law_memos", "_law_own_same", "_law_own_home"]) F8 fun _ _ _ _ _ _ us hl => match us, hl with | [_, _, _, _, _, _], _ => rfl
  obtain ⟨ds, vd, bd⟩ := FunD.binds0 (ps := ["rules", "made", "others", "memos", "same", "home"]) F1 4 (by intro z; cases z) rfl fun D doc pm an cdv ct us ks h1 h2 => match us, h1, ks, h2 with
    | [_, _, _, _], _, [_, _], _ => ⟨_, _, _, _, _, _, rfl, rfl, _, _, _, _, _, _, rfl, rfl, rfl⟩
  obtain ⟨mh, bh⟩ := FunD.kbinds0 (ps := ["rules", "made", "others", "memos", "same", "home"]) F1 4 ["home"] [("same", V.non)] (fun us mv ws => us ++ (mv ++ ws)) (by intro z; cases z) (by intro q hq; rw [List.mem_singleton] at hq; rw [hq]; exact List.mem_cons_self) (fun a b c => a.append (b.append c)) fun D doc pm an cdv ct us mv ws h1 h2 h3 => match us, h1, mv, h2, ws, h3 with
    | [_, _, _, _], _, [_], _, [_], _ => ⟨_, _, _, _, _, _, rfl, rfl, rfl⟩
  obtain ⟨ms, bs⟩ := FunD.kbinds0 (ps := ["rules", "made", "others", "memos", "same", "home"]) F1 4 ["same"] [("home", V.bl true)] (fun us mv ws => us ++ (ws ++ mv)) (by intro z; cases z) (by intro q hq; rw [List.mem_singleton] at hq; rw [hq]; exact List.mem_cons_of_mem _ List.mem_cons_self) (fun a b c => a.append (c.append b)) fun D doc pm an cdv ct us mv ws h1 h2 h3 => match us, h1, mv, h2, ws, h3 with
    | [_, _, _, _], _, [_], _, [_], _ => ⟨_, _, _, _, _, _, rfl, rfl, rfl⟩
  refine ⟨fd9, fun s v => b s [v] rfl, fun base _ _ => ?_⟩
  have g := fun (i : Nat) (x : Str) (e : fa[i]? = some (.glo x)) => He.glo_ok (x := x) X G (c.fact i (f := .glo x) e)
  have k0 : Known P w K mg base CX0 1 "_meets" _ spMeets _ fd0 := ⟨ok_meets (He5.fun_of (st := top 1) F0), g 0 "_meets" rfl, F0.kp, b0⟩
  have k2 : Known P w K mg base CX0 1 "_law_source" _ (spSource K) _ fd2 := ⟨ok_source (He5.fun_of (st := top 4) F2) B, g 2 "_law_source" rfl, F2.kp, b2⟩
  have k3 : Known P w K mg base CX0 1 "_law_draw" _ spDraw _ fd3 := ⟨ok_draw (He5.fun_of (st := top 5) F3) B, g 3 "_law_draw" rfl, F3.kp, b3⟩
  have k4 : Known P w K mg base CX0 2 "_law_of" _ (spOf K) _ fd4 := ⟨ok_of (He5.fun_of (st := top 6) F4) B k3, g 4 "_law_of" rfl, F4.kp, b4⟩
  have k5 : Known P w K mg base CX0 2 "_law_made" _ spMade _ fd5 := ⟨ok_made (He5.fun_of (st := top 7) F5) B k3, g 5 "_law_made" rfl, F5.kp, b5⟩
  have k6 : Known P w K mg base CX0 2 "_law_flags" _ spFlags _ fd6 := ⟨ok_flags (He5.fun_of (st := top 8) F6) B k3, g 6 "_law_flags" rfl, F6.kp, b6⟩
  have k7 : Known P w K mg base CX0 1 "_law_level" _ spLevel _ fd7 := ⟨ok_level (He5.fun_of (st := top 9) F7), g 7 "_law_level" rfl, F7.kp, b7⟩
  have k8 : Known P w K mg base CX0 2 "_law_due" _ (spDue K) _ fd8 := ⟨ok_due (He5.fun_of (st := top 10) F8) B k7, g 8 "_law_due" rfl, F8.kp, b8⟩
  have k1 : KnownM P w K mg base _ fd1 ds _ _ := ⟨ok_meeting F1 B k0, g 1 "meeting" rfl, F1.kp, vd, bd, bh, bs⟩
  exact ok_law (He5.fun_of (st := top 11) F9) B k6 k3 k1 k8 k4 k5 k2
end Wq
open PySem PySem.W PySem.Calls PyProof.Rows
theorem PySem.Challenge.cw_waypairs_k49_meetings_holds : PySem.Challenge.rw_waypairs_k49_meetings.Holds := by
  w_on; o_law
  refine HandSHeadRun.head_any (r := OpenLaw.row PySem.Challenge.rw_waypairs_k49_meetings) (q := view (OpenLaw.row PySem.Challenge.rw_waypairs_k49_meetings).prog [11]) (H := Wq.hk) (ob := Wq.ob) (M := 2000) (loose := ["_meets", "meeting", "_law_source", "_law_draw", "_law_of", "_law_made", "_law_flags", "_law_level", "_law_due"]) (d := HandSHeadRun.topDef (OpenLaw.row PySem.Challenge.rw_waypairs_k49_meetings).prog 11) (kwd := []) Wq.ob_eq
    (by kernel_rfl) (fun s => by kernel_rfl) Wq.run (by kernel_rfl) (by kernel_rfl) (by kernel_rfl) (by rfl) (by first | assumption | decide +kernel) (by decide +kernel) ⟨rfl, rfl, rfl, rfl, rfl, by decide +kernel⟩ ?hw ?hc
  case hw => w_witness2
  case hc =>
    refine L2.walk_ofE (l := PySem.Challenge.rw_waypairs_k49_meetings) (n := 63) (k := 3) (x := "_law_script") (CX := L2.CX0) rfl (by decide) (by kernel_rfl) ⟨rfl, by decide, by decide⟩ ?F (fun _ _ _ _ z => z)
    intro w mg fa h Y G hmg0
    obtain ⟨K, KX, c⟩ := Y
    have hmg : mg ("law" : PySem.Str) = some (.ref fa) := by
      have e : (HandSHeadRun.topDef (OpenLaw.row PySem.Challenge.rw_waypairs_k49_meetings).prog 11).name = ("law" : PySem.Str) := by kernel_rfl
      rw [← e]
      exact hmg0
    obtain ⟨fd, hb, hF⟩ := Wq.facts (P := (PySem.Challenge.rw_waypairs_k49_meetings).prog) (w := w) KX G hmg c
    exact ⟨K, fd, Wq.spLaw K, KX, hb, fun H a ns hl _ hS => ⟨a, ns, rfl, hS, hl, fun _ => rfl⟩, hF⟩
