import PyProof.Rows.All
import Wide.All
import OpenK.AllK
import Wide.FinOn
import HandS.ForMost
import HandS.Flow
import HandS.Conv
import HandS.More
import HandS.Codes
import KE.DataEq
import HandS.IsInst
import PyProof.Rows.SetFrom
import HandS.Strs
import HandS.Set
import PyProof.ReprRoads
import HandS.Ends
import HandS.Words
import KE.DataIsa
import KE.KDictPairs
import HandS.Dict
import HandS.TupAny
import KE.KRevSl
import HandS.Small
import HandS.Iter
import HandS.RaiseMore
import HandS.Walk
import PySem.Challenge.RW_strokeguess_k05_touches_or_not
set_option Elab.async false
set_option maxRecDepth 100000
set_option linter.all false
/-! Strokeguess: what all our proofs share: a def's contract as one fact (Cl), frames (Fr), new objects. -/
namespace SG
open PySem PySem.Spec PyProof.Rows L2

/-! ### a def of the module, by its contract -/
structure Cl (P : Program) (w : World) (K : PySem.W.Frag) (mg : Str → Option Value) (base : Heap) (k : Nat) (x : Str) (sp : Sp) : Prop where
  ex : ∃ (f : Addr) (fd : FuncData) (ps : List Str), FnOk P w K mg base CX0 k f fd ps sp ∧ mg x = some (.ref f) ∧ PySem.W.keepIn K (.ref f) = true ∧ Binds K fd ps []
/-- a def as the top has left it -/
structure Df (K : PySem.W.Frag) (mg : Str → Option Value) (x : Str) (st : Stmt) (ps : List Str) : Prop where
  ex : ∃ (f : Addr) (fd : FuncData), Fun K x x st f fd ∧ mg x = some (.ref f) ∧ Binds K fd ps []
section
variable {P : Program} {w : World} {K : PySem.W.Frag} {mg : Str → Option Value} {base : Heap}
theorem Cl.mono {j k : Nat} {x : Str} {sp : Sp} (c : Cl P w K mg base j x sp) (h : j ≤ k) : Cl P w K mg base k x sp := by
  obtain ⟨f, fd, ps, F, m, kp, b⟩ := c.ex
  exact ⟨f, fd, ps, F.mono h, m, kp, b⟩
theorem Cl.imp {k : Nat} {x : Str} {sp sp' : Sp} (c : Cl P w K mg base k x sp) (h : ∀ vs H Q E, sp' vs H Q E → sp vs H Q E) : Cl P w K mg base k x sp' := by
  obtain ⟨f, fd, ps, F, m, kp, b⟩ := c.ex
  exact ⟨f, fd, ps, F.imp h, m, kp, b⟩
theorem Df.ok {x : Str} {st : Stmt} {N ps : List Str} {k : Nat} {sp : Sp} (D : Df K mg x st ps) (S : FnScope N ps (defScope st)) (len : ∀ vs H Q E, sp vs H Q E → vs.length = ps.length)
    (hbody : ∀ (f : Addr) (cdv : Value) (A : Around) (outer : List Env) (s : Shared) (H : Hp) (vs : List V) (Q : VK) (E : XK), Room k (A.deeper (envOfC x (defScope st) s.heap.objs.size f cdv)) → sp vs H Q E →
      ∃ t, PSs (cxOf CX0 P w K mg base N x (defScope st) f cdv A outer s H E).nox (defBody st) t ∧ t { nx := fun _ H' => Q .non H', rt := Q } (start N vs) H) : Cl P w K mg base (k + 1) x sp := by
  obtain ⟨f, fd, F, m, b⟩ := D.ex
  exact ⟨f, fd, ps, F.ok S len (fun cdv A outer s H vs Q E hr h => hbody f cdv A outer s H vs Q E hr h), m, F.kp, b⟩
/-- no call left: nothing can be asked -/
theorem Df.none {x : Str} {st : Stmt} {ps : List Str} {sp : Sp} (D : Df K mg x st ps) (no : ∀ vs H Q E, ¬ sp vs H Q E) : Cl P w K mg base 0 x sp := by
  obtain ⟨f, fd, F, m, b⟩ := D.ex
  exact ⟨f, fd, ps, ⟨fun vs H Q E h => absurd h (no vs H Q E), fun A outer s H args us vs Q E _ _ _ _ h => absurd h (no vs H Q E)⟩, m, F.kp, b⟩
end
section
variable {X : Cx} {k : Nat} {x : Str} {sp : Sp} {e : Expr} {es : List Expr} {t : TA} {p pos : Pos}
theorem pe_cl (c : Cl X.prog X.w X.K X.mg X.base k x sp) (hr : Room k X.A) (hg : Gl X x) (ha : PA X (e :: es) t)
    (hdb : (x == ("__debug__" : Str)) = false := by decide) (he : starEach (e :: es) X.env = (false, eval e X.env) :: starEach es X.env := by rfl) (hpl : (backTo pos (starEach es X.env)).any (·.1) = false := by rfl) :
    PE X (.Call (.Name x p) (e :: es) [] pos) (tCall sp [] E0 t) := by
  obtain ⟨f, fd, ps, F, hm, kp, b⟩ := c.ex
  exact pe_call F hr hg hm kp b .nil pass0 ha hdb he hpl
end
/-! ### heaps -/
/-- all but the objects of S are as they were -/
def Fr (S : List Addr) (H H' : Hp) : Prop := ∀ b o, H b = some o → b ∉ S → H' b = some o
/-- tuples never change -/
def Tp (H H' : Hp) : Prop := ∀ b xs, H b = some (.tup xs) → H' b = some (.tup xs)
theorem Fr.refl (S : List Addr) (H : Hp) : Fr S H H := fun _ _ h _ => h
theorem Fr.trans {S : List Addr} {H H1 H2 : Hp} (a : Fr S H H1) (b : Fr S H1 H2) : Fr S H H2 := fun c o h n => b c o (a c o h n) n
theorem Fr.mono {S S' : List Addr} {H H1 : Hp} (a : Fr S H H1) (h : ∀ x ∈ S, x ∈ S') : Fr S' H H1 := fun c o e n => a c o e fun m => n (h c m)
theorem Fr.new {S : List Addr} {H : Hp} {p : Addr} {o : HO} (h : H p = none) : Fr S H (upd H p o) := fun b u e _ => by
  rw [upd_ne (ne_of_none e h)]
  exact e
theorem Fr.put {S : List Addr} {H : Hp} {p : Addr} {o : HO} (h : p ∈ S) : Fr S H (upd H p o) := fun b u e n => by
  rw [upd_ne (fun z => n (by rw [z]; exact h))]
  exact e
theorem Fr.same {H H' : Hp} (h : Same H H') (S : List Addr) : Fr S H H' := fun b o e _ => h b o e
theorem Fr.nil {H H' : Hp} (h : Fr [] H H') : Same H H' := fun b o e => h b o e (by simp)
theorem Tp.refl (H : Hp) : Tp H H := fun _ _ h => h
theorem Tp.trans {H H1 H2 : Hp} (a : Tp H H1) (b : Tp H1 H2) : Tp H H2 := fun c o h => b c o (a c o h)
theorem Tp.new {H : Hp} {p : Addr} {o : HO} (h : H p = none) : Tp H (upd H p o) := fun b u e => by
  rw [upd_ne (ne_of_none e h)]
  exact e
theorem Tp.same {H H' : Hp} (h : Same H H') : Tp H H' := fun b _ e => h b _ e
theorem same_new {H : Hp} {p : Addr} {o : HO} (h : H p = none) : Same H (upd H p o) := fun b u e => by
  rw [upd_ne (ne_of_none e h)]
  exact e
/-- a new object, told by what is known of it -/
theorem alloc {H : Hp} {o : HO} {Q : Addr → Hp → Prop} (k : ∀ p H', H p = none → H' p = some o → Same H H' → (∀ q, q ≠ p → H' q = H q) → Q p H') : ∀ p, H p = none → Q p (upd H p o) :=
  fun p hp => k p _ hp upd_same (same_new hp) fun _ h => upd_ne h
theorem Same.tup {K : PySem.W.Frag} {H H' : Hp} {a : Addr} {xs : List V} (e : Same H H') (h : SqT K H a xs) : SqT K H' a xs := by
  rcases h with (h | ⟨o, h⟩) | h
  · exact .inl (.inl (e _ _ h))
  · exact .inl (.inr ⟨o, e _ _ h⟩)
  · exact .inr h
end SG
namespace SG
open PySem PySem.Spec PyProof.Rows L2
section
variable {X : Cx}
/-- == and != of data without dicts, any texts -/
def rEqP (K : PySem.W.Frag) : R2 := fun x y H Q => ∃ d e, Dp K H x d ∧ Dp K H y e ∧ PyData.plain d = true ∧ PyData.plain e = true ∧ min d.depth e.depth ≤ 64 ∧ Q (.bl (PyData.eqv d e)) H
def rNeP (K : PySem.W.Frag) : R2 := fun x y H Q => ∃ d e, Dp K H x d ∧ Dp K H y e ∧ PyData.plain d = true ∧ PyData.plain e = true ∧ min d.depth e.depth ≤ 64 ∧ Q (.bl (!PyData.eqv d e)) H
theorem op_eqP (hu : X.A.units + 64 < cLine) : OpR X (compareOp .Eq) (rEqP X.K) := by
  intro pins s σ H x y v u Q I rx ry h
  obtain ⟨d, e, hd, he, sd, se, hm, q⟩ := h
  obtain ⟨as, r1⟩ := Dp.reads I d x v hd rx
  obtain ⟨bs, r2⟩ := Dp.reads I e y u he ry
  exact SeqAt.eq_plain r1 r2 sd se (by omega) ⟨.bl _, H, I, rfl, q⟩
theorem op_neP (hu : X.A.units + 64 < cLine) : OpR X (compareOp .NotEq) (rNeP X.K) := by
  intro pins s σ H x y v u Q I rx ry h
  obtain ⟨d, e, hd, he, sd, se, hm, q⟩ := h
  obtain ⟨as, r1⟩ := Dp.reads I d x v hd rx
  obtain ⟨bs, r2⟩ := Dp.reads I e y u he ry
  exact SeqAt.ne_plain r1 r2 sd se (by omega) ⟨.bl _, H, I, rfl, q⟩
end
/-! ### powers of any base -/
def CPowG (i j : Int) : Prop := 0 ≤ j ∧ (Builtin.Int.intBits i : Int) * j ≤ 2 ^ 27
theorem op_powG {X : Cx} : OpR X (binaryOp .Pow) (rI CPowG fun i j => .int (i ^ j.toNat)) := opI fun _ _ _ _ _ _ _ hc q => pow_int hc.1 hc.2 q
/-! ### data made of tuples alone: it never changes -/
mutual
inductive Im (H : Hp) : V → PyData → Prop
  | non : Im H .non .none
  | bl (b : Bool) : Im H (.bl b) (.bool b)
  | int (i : Int) : Im H (.int i) (.int i)
  | str (x : Str) : Im H (.str x) (.str x)
  | tup {a : Addr} {xs : List V} {ds : List PyData} : H a = some (.tup xs) → ImAll H xs ds → Im H (.ref a) (.tuple ds)
inductive ImAll (H : Hp) : List V → List PyData → Prop
  | nil : ImAll H [] []
  | cons {v : V} {vs : List V} {d : PyData} {ds : List PyData} : Im H v d → ImAll H vs ds → ImAll H (v :: vs) (d :: ds)
end
mutual
theorem Im.dp {K : PySem.W.Frag} {H : Hp} : ∀ {d : PyData} {v : V}, Im H v d → Dp K H v d
  | .none, _, h => by cases h; exact .non
  | .bool _, _, h => by cases h; exact .bl _
  | .int _, _, h => by cases h; exact .int _
  | .str _, _, h => by cases h; exact .str _
  | .tuple _, _, h => by
    cases h with
    | tup a b => exact .tup (SqT.of a) (ImAll.dp b)
  | .list _, _, h => by cases h
  | .dict _, _, h => by cases h
theorem ImAll.dp {K : PySem.W.Frag} {H : Hp} : ∀ {ds : List PyData} {vs : List V}, ImAll H vs ds → DpAll K H vs ds
  | [], _, h => by cases h; exact .nil
  | _ :: _, _, h => by
    cases h with
    | cons a b => exact .cons (Im.dp a) (ImAll.dp b)
end
mutual
theorem Im.tp {H H' : Hp} (t : Tp H H') : ∀ {d : PyData} {v : V}, Im H v d → Im H' v d
  | .none, _, h => by cases h; exact .non
  | .bool _, _, h => by cases h; exact .bl _
  | .int _, _, h => by cases h; exact .int _
  | .str _, _, h => by cases h; exact .str _
  | .tuple _, _, h => by
    cases h with
    | tup a b => exact .tup (t _ _ a) (ImAll.tp t b)
  | .list _, _, h => by cases h
  | .dict _, _, h => by cases h
theorem ImAll.tp {H H' : Hp} (t : Tp H H') : ∀ {ds : List PyData} {vs : List V}, ImAll H vs ds → ImAll H' vs ds
  | [], _, h => by cases h; exact .nil
  | _ :: _, _, h => by
    cases h with
    | cons a b => exact .cons (Im.tp t a) (ImAll.tp t b)
end
theorem Im.plain {H : Hp} : ∀ {d : PyData} {v : V}, Im H v d → d.plain = true := by
  intro d v h
  induction h using Im.rec (motive_2 := fun vs ds _ => PyData.plainAll ds = true) with
  | non => rfl
  | bl => rfl
  | int => rfl
  | str => rfl
  | tup _ _ ih => exact ih
  | nil => rfl
  | cons _ _ a b =>
    show (PyData.plain _ && PyData.plainAll _) = true
    rw [a, b]; rfl
end SG
namespace SG
open PySem PySem.Spec PyProof.Rows L2
theorem upd_is {H H' : Hp} {p : Addr} {o : HO} (e : upd H p o = H') : H' p = some o := by
  rw [← e]
  exact upd_same
theorem same_is {H H' : Hp} {p : Addr} {o : HO} (e : upd H p o = H') (h : H p = none) : Same H H' := by
  rw [← e]
  exact same_new h
end SG
namespace SG
open PySem PySem.Spec PyProof.Rows L2
section
variable {X : Cx}
/-- != of any list and an empty one -/
def rNeNil (K : PySem.W.Frag) : R2 := fun x y H Q => ∃ (a b : Addr) (xs : List V), x = .ref a ∧ y = .ref b ∧ SqL K H a xs ∧ SqL K H b [] ∧ Q (.bl (!xs.isEmpty)) H
theorem op_neNil (hu : X.A.units + 64 < cLine) : OpR X (compareOp .NotEq) (rNeNil X.K) := by
  intro pins s σ H x y v u Q I rx ry h
  obtain ⟨a, b, xs, rfl, rfl, ha, hb, q⟩ := h
  cases (show v = Value.ref a from rx)
  cases (show u = Value.ref b from ry)
  obtain ⟨us, r1, p1, _⟩ := I.list ha
  obtain ⟨ws, r2, p2, _⟩ := I.list hb
  have e2 : ws = [] := by cases r2; rfl
  subst e2
  have hu' : X.A.units < cLine := by omega
  cases xs with
  | nil =>
    have e1 : us = [] := by cases r1; rfl
    subst e1
    have z := SeqAt.RcNeAt.lists (A := X.A) (s := s) (e := fun _ => true) p1.isList p2.isList rfl hu' (fun j j1 _ => absurd j1 (Nat.not_lt_zero j))
    exact z X.prog X.w _ _ ⟨.bl false, H, I, rfl, q⟩
  | cons x r =>
    have hsz : ¬ us.toArray.size = ([] : List Value).toArray.size := by
      cases r1 with
      | cons => simp
    have z := SeqAt.RcNeAt.lists_lengths (A := X.A) (s := s) p1.isList p2.isList (by simpa using hsz) hu'
    exact z X.prog X.w _ _ ⟨.bl true, H, I, rfl, q⟩
end
end SG
namespace SG
open PySem PySem.Spec PyProof.Rows L2
/-! ### sets of texts: how many -/
/-- the first i of xs, each once -/
def seen (xs : List Str) (i : Nat) : List Str := (xs.take i).foldl step_dedup []
theorem seen_succ {xs : List Str} {i : Nat} {x : Str} (h : xs[i]? = some x) : seen xs (i + 1) = step_dedup (seen xs i) x := by
  obtain ⟨hi, e⟩ := List.getElem?_eq_some_iff.mp h
  unfold seen
  rw [List.take_succ_eq_append_getElem hi, List.foldl_append, e]
  rfl
theorem dedup_any (σ : List Str) (v k : Str) : (step_dedup σ v).any (· == k) = (σ.any (· == k) || decide (k = v)) := by
  unfold step_dedup
  by_cases hv : σ.any (· == v) = true
  · rw [if_pos hv]
    by_cases e : k = v
    · subst e; simp [hv]
    · simp [e]
  · rw [if_neg hv, List.any_append]
    by_cases e : k = v
    · subst e; simp
    · simp [e, Ne.symm e]
theorem dedup_len (σ : List Str) (v : Str) : (step_dedup σ v).length = if σ.any (· == v) = true then σ.length else σ.length + 1 := by
  unfold step_dedup
  split <;> simp
theorem seen_le (xs : List Str) (i : Nat) : (seen xs i).length ≤ i := Nat.le_trans (foldl_step_dedup_nil_length_le _) (by rw [List.length_take]; omega)
section
variable {prog : Program} {w : World} {A : Around}
/-- the walk of set.update over texts: after i of them the set is that of the first i -/
theorem strs_into {R : Result → Shared → Prop} {I : Addr} {fp wr : List Addr} {G : Array GenState → Array GenState → Prop} {n : Nat} {P : Nat → Value → Prop} {St : Nat → Shared → Prop}
    (W : WalksS prog w A.in1 I fp wr G n P St) (S : Addr) (out : S ∉ fp) (xs : List Str) (hn : xs.length = n) (few : n + 1 < scanBound) (val : ∀ (i : Nat) (v : Value), P i v → ∃ x t, xs[i]? = some x ∧ v = Value.str x t) :
    ∀ (left i : Nat) (s : Shared), i + left = n → St i s → s.heap.SetOf (PySem.strKind prog w) S (fun k => (seen xs i).any (· == k)) (seen xs i).length →
      (∀ s2, Moved (S :: wr) G s s2 → s2.heap.SetOf (PySem.strKind prog w) S (fun k => (seen xs n).any (· == k)) (seen xs n).length → R (.ok (.ret .none)) s2) →
      codeAny (model prog w) A (.builtin "set.update.loop" ⟨[.ref S, .ref I], []⟩) R s
  | 0, i, s, e, st, hS, fin => by
    obtain rfl : i = n := by omega
    refine codeAny_builtin PyProof.Rows.F.entry_set_update_loop ?_
    rw [Around.under_plainId PyProof.Rows.F.plain_set_update_loop _]
    refine wpAny_bind (W.done s _ _ st fun s2 mv => wpAny_pure (fin s2 (mv.mono fun b hb => List.mem_cons_of_mem _ hb) ?_))
    obtain ⟨o, es, ep, tb, ho, more⟩ := hS
    exact ⟨o, es, ep, tb, mv.heap S _ (fun z => out (W.sub _ z)) ho, more⟩
  | left + 1, i, s, e, st, hS, fin => by
    refine codeAny_builtin PyProof.Rows.F.entry_set_update_loop ?_
    rw [Around.under_plainId PyProof.Rows.F.plain_set_update_loop _]
    refine wpAny_bind (W.item i s _ _ (by omega) st fun v s2 hv st2 mv => ?_)
    obtain ⟨x, t, hx, rfl⟩ := val i v hv
    have hS2 : s2.heap.SetOf (PySem.strKind prog w) S (fun k => (seen xs i).any (· == k)) (seen xs i).length := by
      obtain ⟨o, es, ep, tb, ho, more⟩ := hS
      exact ⟨o, es, ep, tb, mv.heap S _ (fun z => out (W.sub _ z)) ho, more⟩
    refine wpAny_bind (wpAny_holding ?_)
    unfold setAdd
    refine wpAny_holding (wpAny_bind ((PySem.strKind prog w).pyHash (k := x) (strKind_is _ _ _ _) ?_))
    have room := seen_le xs i
    refine wpAny_setAddHashed_of (knd := PySem.strKind prog w) (s := { s2 with toks := s2.toks + 1 }) (strKind_is _ _ _ _) rfl hS2 (by omega) fun h3 but hS3 => ?_
    have hS4 : h3.SetOf (PySem.strKind prog w) S (fun k => (seen xs (i + 1)).any (· == k)) (seen xs (i + 1)).length :=
      PyProof.Rows.SetOf_congr hS3 (fun k => by rw [seen_succ hx, dedup_any]) (by rw [seen_succ hx, dedup_len])
    refine wpAny_pure ⟨plainId_quiet PyProof.Rows.F.plain_set_update_loop _, strs_into W S out xs hn few val left (i + 1) _ (by omega) (W.frame _ s2 _ _ st2 (Nat.le_succ _) fun b hb o q => ?_) hS4 fun s5 mv5 hS5 => fin s5 (Moved.trans W.gtrans ((mv.mono fun b hb => List.mem_cons_of_mem _ hb).then_heap (Nat.le_succ _) fun b o hb q => ?_) mv5) hS5⟩
    · rw [but.2 b (fun z : b = S => out (by rw [← z]; exact hb))]
      exact q
    · rw [but.2 b (fun z : b = S => hb (by rw [z]; exact List.mem_cons_self))]
      exact q
set_option maxHeartbeats 3200000 in
/-- set(xs), xs a list of texts -/
theorem set_of_strs {E : Value → Shared → Prop} {s : Shared} {l : Addr} {items : Array Value} {xs : List Str} {Q : Value → Shared → Prop} (calm : A.handled = none) (hl : s.heap.IsList l items) (hi : PyProof.Rows.StrsAre items.toList xs) (few : xs.length + 1 < scanBound)
    (k : ∀ (h2 : Heap) (tk : Nat), h2.SetOf (PySem.strKind prog w) s.heap.objs.size (fun j => (seen xs xs.length).any (· == j)) (seen xs xs.length).length →
      (∀ b o, b < s.heap.objs.size → s.heap.get? b = some o → h2.get? b = some o) → Q (.ref s.heap.objs.size) { s with heap := h2, toks := tk }) : wpAny (model prog w) A (call (.type "set") [.ref l]) Q E s := by
  have nx : xs.length = items.size := by rw [← StrsAre.len_eq hi, Array.length_toList]
  obtain ⟨_, _, hmro⟩ := PySem.F.called_set.mro
  have hmade := PySem.F.called_set.made; have hsub := PySem.F.called_set.sub
  refine wpAny_call (codeAny_of_tree (show wpAny _ _ (callAny (.type "set") _) _ _ _ from wpAny_pure ⟨Code.quiet_builtin _ (by decide +kernel), codeAny_builtin PySem.F.entry_type_call ?_⟩))
  rw [Around.under_plain (weight_type_call_type "set" [.ref l] []) rfl]
  have h1 := PySem.F.called_set.notType; have h2 := PySem.F.called_set.canCreate; have h3 := PySem.F.typeCall_set_1 (.ref l)
  repeat (any_goals (first | assumption | wp_step))
  refine codeAny_mono (code_set_new_1 (.ref l) (E := E) (Q₁ := fun ob s2 => ∃ led : Bool, ob = .ref s.heap.objs.size ∧ s2 = { s with heap := s.heap.push { cls := .type "set", dict := none, data := .set #[] 0 (.fresh 0 0 led) } }) fun led => ⟨led, rfl, rfl⟩) fun r s2 hr => ?_
  match r, hr with
  | .error e, hr => exact hr
  | .ok .next, hr => exact hr.elim
  | .ok .brk, hr => exact hr.elim
  | .ok .cont, hr => exact hr.elim
  | .ok (.ret ob), ⟨led, e1, e2⟩ =>
  subst e1; subst e2
  have hS : (s.heap.push { cls := .type "set", dict := none, data := .set #[] 0 (.fresh 0 0 led) }).get? s.heap.objs.size = some { cls := .type "set", dict := none, data := .set #[] 0 (.fresh 0 0 led) } := Heap.get?_push_size _ rfl
  have hT : Shared.TypeIs { s with heap := s.heap.push { cls := .type "set", dict := none, data := .set #[] 0 (.fresh 0 0 led) } } (.ref s.heap.objs.size) "set" := ⟨_, hS, rfl⟩
  have h4 := PySem.F.called_set.init.lookup; have h5 := PySem.F.called_set.init.bind (.ref s.heap.objs.size)
  repeat (any_goals (first | assumption | wp_step))
  refine codeAny_mono (codeAny_call_builtin (R := wants (fun r s3 => r = .none ∧ ∃ h2 tk, s3 = { s with heap := h2, toks := tk } ∧ h2.SetOf (PySem.strKind prog w) s.heap.objs.size (fun j => (seen xs xs.length).any (· == j)) (seen xs xs.length).length ∧
    (∀ b o, b < s.heap.objs.size → s.heap.get? b = some o → h2.get? b = some o)) E) PySem.F.called_set.init.plain PySem.F.entry_set_init (check_set_init_1 hT ?_)) fun r s3 hr => ?_
  · obtain ⟨⟨ocls, odict, odata, oslots⟩, hol, hcl, nl, hdl⟩ := hl
    simp only at hcl hdl
    subst hcl; subst hdl
    have hol2 : (s.heap.push { cls := .type "set", dict := none, data := .set #[] 0 (.fresh 0 0 led) }).get? l = some { cls := .type "list", dict := odict, data := .seq items nl, slots := oslots } := Heap.get?_push_of_some _ hol
    have a1 := PySem.F.sub_list_set; have a2 := PySem.F.sub_list_frozenset; have a3 : (Value.type "list" == Value.type "dict") = false := by decide
    have hl2 : (s.heap.push { cls := .type "set", dict := none, data := .set #[] 0 (.fresh 0 0 led) }).IsList l items := ⟨_, hol2, rfl, nl, rfl⟩
    unfold Builtin.«set.__init__» noKeywords Builtin.Frozenset.updateFrom
    generalize hPI : pyIter = PI
    wp_walk
    subst hPI
    refine wpAny_pyIter_list hl2 (wpAny_bind (wpAny_runValue ?_))
    have lS : l < s.heap.objs.size := Heap.lt_size hol
    have calm3 : A.in1.in1.in1.handled = none := by simp [calm]
    have ne1 : l ≠ (s.heap.push { cls := .type "set", dict := none, data := .set #[] 0 (.fresh 0 0 led) }).objs.size := by
      rw [Heap.size_push]; exact Nat.ne_of_lt (Nat.lt_succ_of_lt lS)
    have ne2 : s.heap.objs.size ∉ [(s.heap.push { cls := .type "set", dict := none, data := .set #[] 0 (.fresh 0 0 led) }).objs.size, l] := by
      rw [Heap.size_push]
      simp only [List.mem_cons, List.not_mem_nil, or_false, not_or]
      exact ⟨Nat.ne_of_lt (Nat.lt_succ_self _), Nat.ne_of_gt lS⟩
    refine strs_into ((Walks.list calm3 _ l ne1 items).toS) s.heap.objs.size ne2 xs nx (by omega) (fun i v hv => ?_) items.size 0 _ (by omega) ⟨⟨_, Heap.get?_push_size _ rfl, rfl, rfl⟩, (hl2.push _)⟩ ?first ?last
    · have hv' : items[i]? = some v := hv
      obtain ⟨t, e⟩ := SS.strs_at hi i v (by rw [Array.getElem?_toList]; exact hv')
      have il : i < xs.length := by rw [nx]; exact (Array.getElem?_eq_some_iff.mp hv').1
      exact ⟨xs[i], t, List.getElem?_eq_getElem il, by rw [e]; simp [List.getD, List.getElem?_eq_getElem il]⟩
    case first =>
      have g : ((s.heap.push { cls := .type "set", dict := none, data := .set #[] 0 (.fresh 0 0 led) }).push { cls := .type "list_iterator", data := .fields #[.ref l, .int 0 0] }).get? s.heap.objs.size = some { cls := .type "set", dict := none, data := .set #[] 0 (.fresh 0 0 led) } := Heap.get?_push_of_some _ hS
      exact PyProof.Rows.SetOf_congr ((PyProof.Rows.setObjOf_fresh (knd := PySem.strKind prog w) led).setOf g (by unfold scanBound; omega)) (fun _ => rfl) rfl
    case last =>
      intro s4 mv hS4
      obtain ⟨h6, g6, d6, tk6, os6⟩ := s4
      obtain rfl : g6 = s.gens := mv.gens
      obtain rfl : d6 = s.drawn := mv.drawn
      obtain rfl : os6 = s.os := mv.os
      refine wpAny_pure (show wpAny _ _ (ret Value.none) _ _ _ from wpAny_pure ⟨rfl, h6, tk6, rfl, by rw [nx]; exact hS4, fun b o hb q => ?_⟩)
      refine mv.heap b o ?_ (Heap.get?_push_of_some _ (Heap.get?_push_of_some _ q))
      rw [Heap.size_push]
      simp only [List.mem_cons, List.not_mem_nil, or_false, not_or]
      exact ⟨Nat.ne_of_lt hb, Nat.ne_of_lt (Nat.lt_succ_of_lt hb)⟩
  · match r, hr with
    | .error e, hr => exact hr
    | .ok .next, hr => exact hr.elim
    | .ok .brk, hr => exact hr.elim
    | .ok .cont, hr => exact hr.elim
    | .ok (.ret r), ⟨e1, h6, tk6, e2, hS6, hk6⟩ =>
    subst e1; subst e2
    repeat (any_goals (first | assumption | wp_step))
    exact k _ _ hS6 hk6
end
section
variable {X : Cx}
/-- len(set(xs)), xs a list of texts -/
def tLenSetT (K : PySem.W.Frag) (ta : TE) : TE := fun σ H Q => ta σ H fun x H1 => ∃ (l : Addr) (xs : List Str), x = .ref l ∧ SqL K H1 l (xs.map V.str) ∧ xs.length ≤ 4000 ∧ Q (.int ((seen xs xs.length).length : Nat)) H1
theorem pe_lenSetT {a : Expr} {ta : TE} {p p2 q pos : Pos} (calm : X.calm = true) (g1 : Gl X "len") (m1 : X.mg "len" = none) (g2 : Gl X "set") (m2 : X.mg "set" = none) (ha : PE X a ta)
    (na : starEach [a] X.env = (false, eval a X.env) :: starEach [] X.env := by rfl) : PE X (.Call (.Name "len" p) [.Call (.Name "set" p2) [a] [] q] [] pos) (tLenSetT X.K ta) := by
  refine ⟨fun pins s σ H Q I h => Call_ (ld_blt I g1 m1 boot_len (PyProof.Rows.callWith_builtin1 (PyProof.Rows.args_cons ?_ rfl) rfl rfl))⟩
  refine Call_ (ld_blt I g2 m2 boot_set (PyProof.Rows.callWith_type1 (PyProof.Rows.args_cons (thn (ha.run pins s σ H _ I h) fun v s1 ⟨x, H1, I1, r1, l, xs, ex, hq, few, q1⟩ => PyProof.Rows.args_nil ?_) na) na rfl))
  subst ex
  cases r1
  obtain ⟨its, r, pl, _⟩ := I1.list hq
  have lx : its.length = xs.length := by rw [← r.length, List.length_map]
  refine set_of_strs (I1.ok.hd calm) pl.isList (by simpa using strsAre_of r) (by unfold scanBound; omega) fun h2 tk hS hk => PyProof.Rows.args_nil ?_
  obtain ⟨o, es, ep, t, ho, hex, hd, _, _, _, hf, hn⟩ := hS
  have I2 : Inv X pins σ H1 { s1 with heap := h2, toks := tk } := I1.kept fun b o e => hk b o (Heap.lt_size e) e
  have bd := seen_le xs xs.length
  exact call_len_set ho hex hd hf (by rw [hn]; omega) ⟨.int _, H1, I2.tok _, ⟨_, by rw [hn]⟩, q1⟩
end
end SG
/-! functions that are called while nothing is being shown: repr of data can be called in them -/
namespace SG
open PySem PySem.Spec PyProof.Rows L2
/-- FnOk, where no repr is under way -/
structure FnG (P : Program) (w : World) (K : PySem.W.Frag) (mg : Str → Option Value) (base : Heap) (k : Nat) (f : Addr) (fd : FuncData) (ps : List Str) (sp : Sp) : Prop where
  cnt : ∀ vs H Q E, sp vs H Q E → vs.length = ps.length
  go : ∀ (A : Around) (up : List Env) (s : Shared) (H : Hp) (ar : Args) (us : List Value) (vs : List V) (Q : VK) (E : XK),
    Room k A → A.guards = some [] → Env0 P w K mg base A up s H → BindsTo s fd ar (ps.zip us) → Vals vs us → sp vs H Q E →
    codeAny (model P w) A (.call (.ref f) ar) (CR CX0 up P w H s Q E) s
structure ClG (P : Program) (w : World) (K : PySem.W.Frag) (mg : Str → Option Value) (base : Heap) (k : Nat) (x : Str) (sp : Sp) : Prop where
  ex : ∃ (f : Addr) (fd : FuncData) (ps : List Str), FnG P w K mg base k f fd ps sp ∧ mg x = some (.ref f) ∧ PySem.W.keepIn K (.ref f) = true ∧ Binds K fd ps []
section
variable {P : Program} {w : World} {K : PySem.W.Frag} {mg : Str → Option Value} {base : Heap}
theorem ClG.mono {j k : Nat} {x : Str} {sp : Sp} (c : ClG P w K mg base j x sp) (h : j ≤ k) : ClG P w K mg base k x sp := by
  obtain ⟨f, fd, ps, F, m, kp, b⟩ := c.ex
  exact ⟨f, fd, ps, ⟨F.cnt, fun A up s H ar us vs Q E hr => F.go A up s H ar us vs Q E (hr.mono h)⟩, m, kp, b⟩
theorem fun_okG {x qual : Str} {st : Stmt} {f : Addr} {fd : FuncData} {N ps : List Str} {k : Nat} {sp : Sp} (F : Fun K x qual st f fd) (S : FnScope N ps (defScope st)) (len : ∀ vs H Q E, sp vs H Q E → vs.length = ps.length)
    (hb : ∀ (cdv : Value) (A : Around) (up : List Env) (s : Shared) (H : Hp) (vs : List V) (Q : VK) (E : XK), Room k (A.deeper (envOfC qual (defScope st) s.heap.objs.size f cdv)) → A.guards = some [] → sp vs H Q E →
      ∃ t, PSs (cxOf CX0 P w K mg base N qual (defScope st) f cdv A up s H E).nox (defBody st) t ∧ t { nx := fun _ H' => Q .non H', rt := Q } (start N vs) H) : FnG P w K mg base (k + 1) f fd ps sp := by
  obtain ⟨oc, od, kV, doc, pm, an, cdv, ct, osl, rfl, lk, hcd⟩ := F.ex
  constructor
  · exact len
  intro A up s H ar us vs Q E hr hg e0 bd rv hsp
  have inK : K.In s.heap := e0.mod.kin.keeps fun b o e => (e0.bs b o e).1
  have free : s.heap.NoLimit := e0.mod.nolimit.keeps fun b o e => (e0.bs b o e).1
  have kinds : ∀ y ∈ ps.zip us, (defScope st).names.lookup y.1 = some .local ∨
      ((defScope st).names.lookup y.1 = some .cell ∧ ((cellsFrom (s.heap.objs.size + 1) (defScope st).names []).lookup y.1).isSome = true) := by
    rintro ⟨n, v⟩ hy
    cases S.par n (List.of_mem_zip hy).1 with
    | inl q => exact Or.inl q
    | inr q => exact Or.inr ⟨q, PySem.W.cellsFrom_some _ _ _ (Or.inl q)⟩
  apply codeAny_call_function hr.depth (inK _ _ lk) rfl S.co S.gen rfl (PySem.W.codeRec_of inK hcd) (bd _ _ _ _ ?_)
  apply wpAny_newFunctionEnv_cells S.kind kinds
  intro env he s1 ic
  subst he
  refine ⟨free.keeps ic.toInCall.keep, codeAny_func ?_⟩
  obtain ⟨t, ht0, hq⟩ := hb cdv A up s H vs Q E (hr.deeper _) hg hsp
  have ht := ht0.nox
  have J0 := inv_start (CX := CX0) (E := E) S hr.hd e0 (len _ _ _ _ hsp) rv ic
  refine wpAny_mono (ht.run [] s1 (start N vs) H _ J0 hq) ?_ ?_
  · intro fl s' hs
    cases fl with
    | ret u =>
      obtain ⟨v, σ', H', J, rv', q⟩ := hs
      exact ⟨v, H', J.os, J.bare, J.base, J.hok, rv', q⟩
    | next =>
      obtain ⟨σ', H', J, q⟩ := hs
      exact ⟨V.non, H', J.os, J.bare, J.base, J.hok, rfl, q⟩
    | brk => obtain ⟨_, _, _, q⟩ := hs; exact q.elim
    | cont => obtain ⟨_, _, _, q⟩ := hs; exact q.elim
  · intro e s' hs
    exact hs
theorem Df.okG {x : Str} {st : Stmt} {N ps : List Str} {k : Nat} {sp : Sp} (D : Df K mg x st ps) (S : FnScope N ps (defScope st)) (len : ∀ vs H Q E, sp vs H Q E → vs.length = ps.length)
    (hb : ∀ (f : Addr) (cdv : Value) (A : Around) (up : List Env) (s : Shared) (H : Hp) (vs : List V) (Q : VK) (E : XK), Room k (A.deeper (envOfC x (defScope st) s.heap.objs.size f cdv)) → A.guards = some [] → sp vs H Q E →
      ∃ t, PSs (cxOf CX0 P w K mg base N x (defScope st) f cdv A up s H E).nox (defBody st) t ∧ t { nx := fun _ H' => Q .non H', rt := Q } (start N vs) H) : ClG P w K mg base (k + 1) x sp := by
  obtain ⟨f, fd, F, m, b⟩ := D.ex
  exact ⟨f, fd, ps, fun_okG F S len (fun cdv A up s H vs Q E hr hg h => hb f cdv A up s H vs Q E hr hg h), m, F.kp, b⟩
end
theorem guards_in {A : Around} {q : Str} {sc : Scope} {n : Addr} {f : Addr} {c : Value} (h : A.guards = some []) : (A.deeper (envOfC q sc n f c)).guards = some [] := by
  simpa [Around.deeper] using h
section
variable {X : Cx} {k : Nat} {x : Str} {sp : Sp} {e : Expr} {es : List Expr} {t : TA} {p pos : Pos}
theorem pe_clG (c : ClG X.prog X.w X.K X.mg X.base k x sp) (hr : Room k X.A) (hg : X.A.guards = some []) (gl : Gl X x) (ha : PA X (e :: es) t)
    (hdb : (x == ("__debug__" : Str)) = false := by decide) (he : starEach (e :: es) X.env = (false, eval e X.env) :: starEach es X.env := by rfl) (hpl : (backTo pos (starEach es X.env)).any (·.1) = false := by rfl) :
    PE X (.Call (.Name x p) (e :: es) [] pos) (tCall sp [] E0 t) := by
  obtain ⟨f, fd, ps, F, hm, kp, b⟩ := c.ex
  constructor
  intro pins s σ H Q I h
  apply wpAny_Call_Name_kw (ld_glob I gl hm ?_ hdb)
  apply PySem.W.callWith_K (h₀ := X.base) I.ok.mod.kin kp (thn (ha.run pos pins s σ H _ I h) ?_) he hpl
  rintro us s1 ⟨vs, H1, J, rv, q⟩
  refine ⟨J.kIn, ?_⟩
  have q' : sp (vs ++ []) H1 Q E0 := q
  rw [List.append_nil] at q'
  have cnt : us.length = ps.length := by rw [← rv.length]; exact F.cnt _ _ _ _ q'
  have bd := b s1 us J.kIn (by rw [List.append_nil]; exact cnt)
  rw [List.append_nil] at bd
  refine wpAny_call (codeAny_mono (F.go X.A X.stack s1 H1 ⟨us, []⟩ us vs Q E0 hr hg J.env0 bd rv q') ?_)
  rintro (er | fl) s' hq
  · exact False.elim hq
  · cases fl with
    | ret u => exact J.after hq
    | next => exact hq.elim
    | brk => exact hq.elim
    | cont => exact hq.elim
end
/-- the law's own call, nothing being shown around it -/
theorem law_callG {P : Program} {w : World} {K : PySem.W.Frag} {mg mb : Str → Option Value} {k : Nat} {fa a : Addr} {fd : FuncData} {x : Str} {sp : Sp} {s : Shared} {vs : List Value} {ns : List Int}
    (KX : K.In s.heap) (hns : s.heap.Ns mainGlobals mg) (hb : s.heap.Ns builtinsNs mb) (hbb : ∀ x : Str, x ≠ "__name__" → mb x = bootBuiltins x) (hlim : s.heap.NoLimit) (hg : s.gens = #[])
    (ha : s.heap.get? a = some { cls := .type "list", data := .seq vs.toArray }) (hi : IntsAre vs ns) (hl : ns.length ≤ sizeLine) (hr : Room k callerA)
    (F : ∀ base : Heap, K.In base → base.Ns mainGlobals mg → FnG P w K mg base k fa fd [x] sp) (bd : ∀ (s : Shared) (u : Value), BindsTo s fd ⟨[u], []⟩ [(x, u)])
    (ask : ∀ H : Hp, Only H → SqL K H a (ns.map V.int) → sp [.ref a] H (fun v _ => v = .bl true) fun _ _ _ => False) :
    codeAny (model P w) callerA (.call (.ref fa) ⟨[.ref a], []⟩) (fun r s' => r = .ok (.ret (.bool true)) ∧ OldK s.heap s'.heap ∧ s'.os = s.os ∧ AllBare s'.gens) s := by
  have vals := vals_ints hi
  have many := hi.length
  have main : ∀ H : Hp, Only H → SqL K H a (ns.map V.int) → HOk P w H s.heap → (∀ b, H b ≠ none → b = a) → (H a ≠ none → K.lookup a = none) →
      codeAny (model P w) callerA (.call (.ref fa) ⟨[.ref a], []⟩) (fun r s' => r = .ok (.ret (.bool true)) ∧ OldK s.heap s'.heap ∧ s'.os = s.os ∧ AllBare s'.gens) s := by
    intro H only sq hok at_a hK
    have rest : ∀ {b : Addr} {o : Obj}, s.heap.get? b = some o → H b = none → (hidT s.heap H).get? b = some o := fun e n => hidT_get e n
    have dicts : ∀ {b : Addr} {o : Obj} {es : Array DictEntry} {ep : Nat}, s.heap.get? b = some o → o.data = .dict es ep → H b = none := by
      intro b o es ep e d
      rcases q : H b with _ | u
      · rfl
      · have e' : b = a := at_a b (by rw [q]; exact Option.some_ne_none _)
        rw [e', ha] at e
        cases e
        have d' : Data.seq vs.toArray _ = Data.dict es ep := d
        cases d'
    have spaces : ∀ {b : Addr} {m : Str → Option Value}, s.heap.Ns b m → (hidT s.heap H).Ns b m := by
      rintro b m ⟨o, es, ep, e, d, r⟩
      exact ⟨o, es, ep, rest e (dicts e d), d, r⟩
    have inB : K.In (hidT s.heap H) := by
      intro b o e
      refine rest (KX b o e) ?_
      rcases q : H b with _ | u
      · rfl
      · have nn : H b ≠ none := by rw [q]; exact Option.some_ne_none _
        have e' : b = a := at_a b nn
        rw [e'] at nn e
        rw [hK nn] at e
        cases e
    have md : Mod K mg (hidT s.heap H) := by
      obtain ⟨mc, h1, h2⟩ := hlim
      exact ⟨inB, spaces hns, ⟨mb, spaces hb, hbb⟩, mc, spaces h1, h2⟩
    have e0 : Env0 P w K mg (hidT s.heap H) callerA [] s H := by
      refine ⟨rfl, md, fun b o e => of_hidT e, Nat.le_of_eq (hidT_size _ _), trivial, ?_, hok, .of_eq hg⟩
      intro b hb
      have z : b ∈ ([] : List Addr) := hb
      cases z
    refine codeAny_mono ((F _ inB (spaces hns)).go callerA [] s H ⟨[.ref a], []⟩ [.ref a] [.ref a] _ _ hr rfl e0 (bd s (.ref a)) (.cons rfl .nil) (ask H only sq)) ?_
    rintro (e | fl) s' h
    · exact False.elim h
    · cases fl with
      | next => exact h.elim
      | brk => exact h.elim
      | cont => exact h.elim
      | ret u =>
        obtain ⟨v, H', os, bare, un, hok', r', q⟩ := h
        have q' : v = .bl true := q
        rw [q'] at r'
        obtain rfl : u = Value.bool true := r'
        refine ⟨rfl, OldK.of_keep ?_, os, bare⟩
        intro b o e
        rcases qb : H b with _ | u
        · refine un.keep b o e qb ?_ (by simp)
          intro z
          have z' : b ∈ ([] : List Addr) := z
          cases z'
        · rcases only b with z | ⟨ob, xs, z⟩
          · rw [qb] at z; cases z
          · obtain ⟨e1, _⟩ := hok b _ z
            obtain ⟨e2, _⟩ := hok' b _ (un.frzs b ob _ z)
            rw [e] at e1
            cases e1
            exact e2
  rcases hk : K.lookup a with _ | o
  · have yes : ∀ b, b = a → (fun b => if b = a then some (HO.frz { cls := .type "list", data := .seq vs.toArray } (.lst (ns.map V.int))) else none) b = some (HO.frz { cls := .type "list", data := .seq vs.toArray } (.lst (ns.map V.int))) := fun b e => if_pos e
    refine main (fun b => if b = a then some (.frz { cls := .type "list", data := .seq vs.toArray } (.lst (ns.map V.int))) else none) ?_ (.inl (.inr ⟨_, yes a rfl⟩)) ?_ ?_ fun _ => hk
    · intro b
      by_cases e : b = a
      · exact Or.inr ⟨_, _, yes b e⟩
      · exact Or.inl (if_neg e)
    · intro b u z
      by_cases e : b = a
      · rw [yes b e] at z
        cases z
        rw [e]
        exact ⟨ha, by rw [List.length_map]; exact hl, vs, _, vals, ha⟩
      · have z' := (if_neg e).symm.trans z
        cases z'
    · intro b z
      by_cases e : b = a
      · exact e
      · exact (z (if_neg e)).elim
  · have e := KX a o hk
    rw [ha] at e
    cases e
    refine main (fun _ => none) (fun _ => .inl rfl) (.inr ⟨_, vs.toArray, _, hk, rfl, rfl, rfl, by rw [List.size_toArray, many]; exact hl, by simpa using vals⟩) ?_ (fun b z => absurd rfl z) fun z => absurd rfl z
    intro b u z
    have z' : (none : Option HO) = some u := z
    cases z'
/-- the end, from the promise of the law's def -/
theorem walkG {l : PySem.W.OpenLaw} {n k : Nat} {q : Program} {loose : List Str} {XP : (Str → Option Value) → Heap → Prop} {YP : World → Heap → Prop} {d : DefRec} {K : Params → PySem.W.Frag} {sp : World → Sp} {x : Str}
    (hn : l.most = some n) (hn2 : n ≤ sizeLine) (hdf : d.params.defaults = []) (hr : Room k callerA) (hY : ∀ (w : World) (h : Heap), YP w h → (K w.params).In h)
    (F : ∀ (w : World) (mg : Str → Option Value) (fa : Addr) (h : Heap), (K w.params).In h → h.Ns mainGlobals mg → mg d.name = some (.ref fa) →
      ∃ fd : FuncData, (∀ (s : Shared) (u : Value), BindsTo s fd ⟨[u], []⟩ [(x, u)]) ∧ ∀ base : Heap, (K w.params).In base → base.Ns mainGlobals mg → FnG l.prog w (K w.params) mg base k fa fd [x] (sp w))
    (ask : ∀ (w : World) (H : Hp) (a : Addr) (ns : List Int), ns.length ≤ n → Only H → SqL (K w.params) H a (ns.map V.int) → sp w [.ref a] H (fun v _ => v = .bl true) fun _ _ _ => False) :
    PySem.W.WalkO q loose XP YP l.row.toRowW d [] (fun f vs => PySem.call f vs) := by
  apply Att.attach_call hn hdf
  intro w s₀ s₁ mg mb fa o pm cd doc a vs ns G Y ho hd hcd hmg hobj hints hlen hg
  obtain ⟨fd, hb, hF⟩ := F w mg fa _ (hY w _ Y) G.T.g hmg
  exact law_callG (hY w _ Y) G.T.g G.T.b G.T.builtins G.T.nolimit hg hobj hints (Nat.le_trans hlen hn2) hr hF hb fun H only sq => ask w H a ns hlen only sq
mutual
theorem Dp.noDict {K : PySem.W.Frag} {H : Hp} : ∀ {d : PyData} {v : V}, Dp K H v d → d.hasDict = false
  | _, _, .non => rfl
  | _, _, .bl _ => rfl
  | _, _, .int _ => rfl
  | _, _, .str _ => rfl
  | _, _, .lst _ a => DpAll.noDict a
  | _, _, .tup _ a => DpAll.noDict a
theorem DpAll.noDict {K : PySem.W.Frag} {H : Hp} : ∀ {ds : List PyData} {vs : List V}, DpAll K H vs ds → PyData.hasDictAll ds = false
  | _, _, .nil => rfl
  | _, _, .cons h t => by simp only [PyData.hasDictAll, Dp.noDict h, DpAll.noDict t, Bool.or_self]
end
section
variable {X : Cx}
def rRepr (K : PySem.W.Frag) : List V → Hp → VK → Prop := fun xs H Q => ∃ x d, xs = [x] ∧ Dp K H x d ∧ d.showable = true ∧ d.shown.length ≤ sizeLine ∧ d.depth ≤ 200 ∧ Q (.str d.shown) H
theorem call_reprD (hg : X.A.guards = some []) (hu : X.A.units + 220 < cLine) : CallR X (.builtin "repr") (rRepr X.K) := by
  intro pins s σ H xs us Q I r h
  obtain ⟨x, d, rfl, D, hs, hz, dd, q⟩ := h
  obtain ⟨u, rfl, rv⟩ := vals1 r
  have nd := Dp.noDict D
  cases D with
  | non => obtain rfl : u = Value.none := rv
           exact PySem.P.repr_of_none ⟨.str _, H, I.tok _, ⟨_, rfl⟩, q⟩
  | bl b => obtain rfl : u = Value.bool b := rv
            exact PySem.P.repr_of_bool ⟨.str _, H, I.tok _, ⟨_, rfl⟩, q⟩
  | int i => obtain ⟨t, rfl⟩ := rv
             exact PySem.P.repr_of_int (by simpa [PyData.showable] using hs) ⟨.str _, H, I.tok _, ⟨_, rfl⟩, q⟩
  | str z => obtain ⟨t, rfl⟩ := rv
             exact PySem.P.repr_of_str ⟨.str _, H, I.tok _, ⟨_, rfl⟩, q⟩ hz
  | lst sq al =>
    obtain ⟨as, rd⟩ := Dp.reads I _ _ _ (.lst sq al) rv
    obtain rfl := rv
    refine repr_of_reads' rd hs (fun z => by rw [nd] at z; cases z) hg (by omega) (fun _ _ e => e) ?_ hz
    intro h' u tk hk
    exact ⟨.str _, H, I.kept hk, ⟨_, rfl⟩, q⟩
  | tup sq al =>
    obtain ⟨as, rd⟩ := Dp.reads I _ _ _ (.tup sq al) rv
    obtain rfl := rv
    refine repr_of_reads' rd hs (fun z => by rw [nd] at z; cases z) hg (by omega) (fun _ _ e => e) ?_ hz
    intro h' u tk hk
    exact ⟨.str _, H, I.kept hk, ⟨_, rfl⟩, q⟩
end
end SG
/-! isinstance, in and not in, dict(a tuple of pairs), over data -/
namespace SG
open PySem PySem.Spec PyProof.Rows L2
section
variable {X : Cx}
/-- isinstance(x, T), x data -/
def rIsD (K : PySem.W.Frag) (T : String) (p : PyData → Bool) : List V → Hp → VK → Prop := fun xs H Q => ∃ x d, xs = [x, .ty T] ∧ Dp K H x d ∧ Q (.bl (p d)) H
theorem call_isInt : CallR X (.builtin "isinstance") (rIsD X.K "int" PyData.isInt) := by
  intro pins s σ H xs us Q I r h
  obtain ⟨x, d, rfl, D, q⟩ := h
  obtain ⟨u, c, rfl, rv, rc⟩ := vals2 r
  obtain rfl : c = Value.type "int" := rc
  obtain ⟨as, rd⟩ := Dp.reads I _ _ _ D rv
  exact PySem.W.isinstance_int_data rd fun tk _ => ⟨.bl _, H, I.tok tk, rfl, q⟩
theorem call_isBool : CallR X (.builtin "isinstance") (rIsD X.K "bool" PyData.isBool) := by
  intro pins s σ H xs us Q I r h
  obtain ⟨x, d, rfl, D, q⟩ := h
  obtain ⟨u, c, rfl, rv, rc⟩ := vals2 r
  obtain rfl : c = Value.type "bool" := rc
  obtain ⟨as, rd⟩ := Dp.reads I _ _ _ D rv
  exact PySem.W.isinstance_bool_data rd fun tk _ => ⟨.bl _, H, I.tok tk, rfl, q⟩
theorem call_isStr : CallR X (.builtin "isinstance") (rIsD X.K "str" PyData.isStr) := by
  intro pins s σ H xs us Q I r h
  obtain ⟨x, d, rfl, D, q⟩ := h
  obtain ⟨u, c, rfl, rv, rc⟩ := vals2 r
  obtain rfl : c = Value.type "str" := rc
  obtain ⟨as, rd⟩ := Dp.reads I _ _ _ D rv
  exact PySem.W.isinstance_str_data rd fun tk _ => ⟨.bl _, H, I.tok tk, rfl, q⟩
theorem call_isTup : CallR X (.builtin "isinstance") (rIsD X.K "tuple" PyData.isTuple) := by
  intro pins s σ H xs us Q I r h
  obtain ⟨x, d, rfl, D, q⟩ := h
  obtain ⟨u, c, rfl, rv, rc⟩ := vals2 r
  obtain rfl : c = Value.type "tuple" := rc
  obtain ⟨as, rd⟩ := Dp.reads I _ _ _ D rv
  exact PySem.W.isinstance_tuple_data rd fun tk _ => ⟨.bl _, H, I.tok tk, rfl, q⟩
/-- x in t, t a tuple of data -/
def rInT (K : PySem.W.Frag) (neg : Bool) : R2 := fun x y H Q => ∃ d es, Dp K H x d ∧ Dp K H y (.tuple es) ∧ d.plain = true ∧ PyData.plainAll es = true ∧ min (PyData.depthAll es) d.depth ≤ 64 ∧ Q (.bl (xor neg (es.any fun e => PyData.eqv e d))) H
theorem op_inT (hu : X.A.units + 70 < cLine) : OpR X (compareOp .In) (rInT X.K false) := by
  intro pins s σ H x y ux uy Q I rx ry h
  obtain ⟨d, es, D, T, pd, pe, de, q⟩ := h
  obtain ⟨as, r1⟩ := Dp.reads I _ _ _ D rx
  obtain ⟨bs, r2⟩ := Dp.reads I _ _ _ T ry
  rw [Bool.false_xor] at q
  exact PySem.SeqAt.in_tuple_data r2 r1 pe pd (by omega) ⟨.bl _, H, I, rfl, q⟩
theorem op_ninT (hu : X.A.units + 70 < cLine) : OpR X (compareOp .NotIn) (rInT X.K true) := by
  intro pins s σ H x y ux uy Q I rx ry h
  obtain ⟨d, es, D, T, pd, pe, de, q⟩ := h
  obtain ⟨as, r1⟩ := Dp.reads I _ _ _ D rx
  obtain ⟨bs, r2⟩ := Dp.reads I _ _ _ T ry
  rw [Bool.true_xor] at q
  exact PySem.SeqAt.notIn_tuple_data r2 r1 pe pd (by omega) ⟨.bl _, H, I, rfl, q⟩
end
end SG
/-! tuples of which it is known that they have no attributes of their own (dict(t) looks for them): the rules that make tuples, telling that -/
namespace SG
open PySem PySem.Spec PyProof.Rows L2 HT
theorem hin_of {A : Around} {k : Nat} (hr : Room k A) : A.units + 70 < cLine := by have := hr.un; omega
theorem hrep_of {A : Around} {k : Nat} (hr : Room (k + 2) A) : A.units + 220 < cLine := by have := hr.un; omega
def Tz (H : Hp) (a : Addr) (xs : List V) : Prop := ∃ o, H a = some (.frz o (.tup xs)) ∧ o.dict = none
theorem Tz.sq {K : PySem.W.Frag} {H : Hp} {a : Addr} {xs : List V} (h : Tz H a xs) : SqT K H a xs := by
  obtain ⟨o, e, _⟩ := h
  exact .inl (.inr ⟨o, e⟩)
/-- a new such tuple -/
def NewT (H : Hp) (xs : List V) (Q : VK) : Prop := ∀ (p : Addr) (o : Obj), H p = none → o.dict = none → Q (.ref p) (upd H p (.frz o (.tup xs)))
section
variable {X : Cx}
theorem put_tup {pins : List (Addr × Obj)} {σ : L2.St} {H : Hp} {s : Shared} {Q : VK} {xs : List V} {its : List Value} (I : L2.Inv X pins σ H s) (r : Vals xs its) (z : xs.length ≤ sizeLine) (q : NewT H xs Q) :
    EP X pins σ Q (.ref s.heap.objs.size) { s with heap := s.heap.push { cls := .type "tuple", data := .seq its.toArray } } := by
  have free : H s.heap.objs.size = none := I.hok.fresh (Nat.le_refl _)
  have kept : ∀ b u, s.heap.get? b = some u → (s.heap.push { cls := .type "tuple", data := .seq its.toArray }).get? b = some u := fun b u e => Heap.get?_push_of_some _ e
  have got : (s.heap.push { cls := .type "tuple", data := .seq its.toArray }).get? s.heap.objs.size = some { cls := .type "tuple", data := .seq its.toArray } := Heap.get?_push_size _ rfl
  refine ⟨.ref s.heap.objs.size, upd H s.heap.objs.size (.frz { cls := .type "tuple", data := .seq its.toArray } (.tup xs)), I.laid (t' := s.toks) kept (Nat.le_refl _) ?_, rfl, q _ _ free rfl⟩
  exact ⟨got, z, its, r, IsTup.new _ _⟩
/-- len(x), x a list or a tuple -/
def rLenSq (K : PySem.W.Frag) : List V → Hp → VK → Prop := fun xs H Q => ∃ p ys, xs = [.ref p] ∧ (SqL K H p ys ∨ SqT K H p ys) ∧ Q (.int ys.length) H
/-- (a, b, ..) -/
def tTupF (t : TA) : TE := fun σ H Q => t σ H fun xs H1 => xs.length ≤ sizeLine ∧ NewT H1 xs Q
theorem pe_tupF {es : List Expr} {t : TA} {pos : Pos} {x1} (h : PA X es t) : PE X (.Tuple es x1 pos) (tTupF t) := by
  constructor
  intro pins s σ H Q I hq
  apply wpAny_Tuple_spliced (thn (h.run pos pins s σ H _ I hq) ?_)
  rintro us s1 ⟨xs, H1, J, r, z, q⟩
  exact ⟨by rw [← r.length]; exact z, put_tup J r z q⟩
/-- tuple(x), x a list or a tuple -/
def kTupF (K : PySem.W.Frag) (x : V) (H : Hp) (Q : VK) : Prop :=
  (∃ p xs, x = .ref p ∧ SqL K H p xs ∧ NewT H xs Q) ∨ (∃ p xs, x = .ref p ∧ SqT K H p xs ∧ Q (.ref p) H)
theorem pe_tupleOfF {a : Expr} {ta : TE} {p pos : Pos} (hg : Gl X "tuple") (hm : X.mg "tuple" = none) (ha : PE X a ta) (na : starEach [a] X.env = (false, eval a X.env) :: starEach [] X.env := by rfl) :
    PE X (.Call (.Name "tuple" p) [a] [] pos) (tThen ta (kTupF X.K)) := by
  constructor
  intro pins s σ H Q I h
  refine Call_ (ld_blt I hg hm boot_tuple (PyProof.Rows.callWith_type1 (one_arg ha I h ?_ na) na))
  intro v s2 x H2 J r q
  rcases q with ⟨p, xs, rfl, hs, q⟩ | ⟨p, xs, rfl, hs, q⟩
  · obtain rfl : v = .ref p := r
    obtain ⟨its, rv, pl, hz⟩ := J.list hs
    refine call_tuple_list pl.isList ?_ (by rw [List.size_toArray, ← rv.length]; exact hz)
    intro h' hk
    exact put_tup (J.kept (t' := s2.toks) hk) rv hz q
  · obtain rfl : v = .ref p := r
    obtain ⟨its, rv, pl, hz⟩ := J.tuple hs
    exact call_tuple_tup pl ⟨.ref p, H2, J, rfl, q⟩
/-- t[lo:hi] -/
def rSlF (K : PySem.W.Frag) : V → Option Int → Option Int → Hp → VK → Prop := fun x lo hi H Q => ∃ a xs, x = .ref a ∧ SqT K H a xs ∧
  (HT.sIx xs.length 0 lo = 0 ∧ HT.sIx xs.length xs.length hi = xs.length → Q (.ref a) H) ∧ (¬ (HT.sIx xs.length 0 lo = 0 ∧ HT.sIx xs.length xs.length hi = xs.length) → NewT H (cutV xs lo hi) Q)
theorem sl_tupF : SlR X (rSlF X.K) := by
  intro pins s σ H x v vl vu lo hi sl Q I rx hs pl pu h
  obtain ⟨a, xs, rfl, hx, q1, q2⟩ := h
  obtain rfl : v = .ref a := rx
  obtain ⟨its, r, ht, hz⟩ := I.tuple hx
  have many : its.toArray.size = xs.length := by rw [List.size_toArray]; exact r.length.symm
  refine ⟨"tuple", _, PyProof.Rows.slot_tuple_getitem.lookup, ht.typeIs, ?_⟩
  by_cases hw : HT.sIx xs.length 0 lo = 0 ∧ HT.sIx xs.length xs.length hi = xs.length
  · exact getItem_tuple_whole ht hs pl pu (by rw [many]; exact hw) ⟨.ref a, H, I, rfl, q1 hw⟩
  · refine HT.getItem_tuple_cut ht hs pl pu (by rw [many]; exact hw) ?_ (by rw [many]; exact hz)
    rw [many]
    exact put_tup I ((r.drop (HT.sIx xs.length 0 lo)).take (HT.sIx xs.length xs.length hi - HT.sIx xs.length 0 lo)) (Nat.le_trans (cutV_length xs lo hi) hz) (q2 hw)
/-- t + u -/
def rCatF (K : PySem.W.Frag) : R2 := fun x y H Q => ∃ a b xs ys, x = .ref a ∧ y = .ref b ∧ SqT K H a xs ∧ SqT K H b ys ∧ xs.length + ys.length ≤ sizeLine ∧
  (xs = [] → Q (.ref b) H) ∧ (xs ≠ [] → ys = [] → Q (.ref a) H) ∧ (xs ≠ [] → ys ≠ [] → NewT H (xs ++ ys) Q)
theorem op_catF : OpR X (binaryOp .Add) (rCatF X.K) := by
  intro pins s σ H x y v u Q I rx ry h
  obtain ⟨a, b, xs, ys, rfl, rfl, ha, hb, hz, q0, q1, q2⟩ := h
  obtain rfl : v = .ref a := rx
  obtain rfl : u = .ref b := ry
  obtain ⟨its, r1, p1, _⟩ := I.tuple ha
  obtain ⟨its2, r2, p2, _⟩ := I.tuple hb
  by_cases hx : xs = []
  · subst hx
    cases r1
    exact cat_tup0 p1 p2 ⟨.ref b, H, I, rfl, q0 rfl⟩
  · refine HT.cat_tup p1 p2 (fun z => hx (r1.nil_iff.mp z)) (fun z => ⟨.ref a, H, I, rfl, q1 hx (r2.nil_iff.mp z)⟩) (fun z => ?_) (by rw [← r1.length, ← r2.length]; exact hz)
    exact put_tup I (r1.append r2) (by rw [List.length_append]; exact hz) (q2 hx fun w => z (r2.nil_iff.mpr w))
/-- t[::-1] -/
def tRevF (K : PySem.W.Frag) (te : TE) : TE := fun σ H Q => te σ H fun x H1 => ∃ a xs, x = .ref a ∧ SqT K H1 a xs ∧ NewT H1 xs.reverse Q
theorem places_back (n : Nat) : Builtin.Slice.slicePlaces ((n : Int) - 1) (-1) (-1) = n := by
  unfold Builtin.Slice.slicePlaces
  have h1 : ¬ ((-1 : Int) > 0) := by decide
  simp only [h1, if_false]
  split
  · have e : ((n : Int) - 1 - -1 - 1) / (- -1) = (n : Int) - 1 := by
      rw [show (- -1 : Int) = 1 by decide, Int.ediv_one]; omega
    rw [e]; omega
  · omega
theorem fm_congr {α β : Type} {f g : α → Option β} : ∀ {l : List α}, (∀ x ∈ l, f x = g x) → l.filterMap f = l.filterMap g
  | [], _ => rfl
  | x :: l, h => by
    rw [List.filterMap_cons, List.filterMap_cons, h x (by simp), fm_congr fun y hy => h y (by simp [hy])]
theorem pick_back (xs : Array Value) : ((List.range xs.size).filterMap fun (m : Nat) => xs[(((xs.size : Int) - 1) + (m : Int) * -1).toNat]?).toArray = xs.toList.reverse.toArray := by
  have e : ((List.range xs.size).filterMap fun (m : Nat) => xs[(((xs.size : Int) - 1) + (m : Int) * -1).toNat]?) = ((List.range xs.size).map fun k => xs.size - 1 - k).filterMap (xs[·]?) := by
    rw [List.filterMap_map]
    apply fm_congr
    intro m hm
    have := List.mem_range.mp hm
    show xs[_]? = xs[xs.size - 1 - m]?
    congr 1
    omega
  rw [e, PySem.W.krv_range, List.filterMap_reverse, PySem.W.krv_all]
theorem getItem_tuple_back {prog : Program} {w : World} {A : Around} {E : Value → Shared → Prop} {s : Shared} {t sl : Addr} {items : Array Value} {tk : Tok} {Q : Value → Shared → Prop} (ht : IsTup s.heap t items) (hs : s.heap.IsSliceOf sl .none .none (.int (-1) tk))
    (h : Q (.ref s.heap.objs.size) { s with heap := s.heap.push { cls := .type "tuple", data := .seq items.toList.reverse.toArray } })
    (hsz : items.size ≤ sizeLine) : wpAny (model prog w) A (getItem (.ref t) (.ref sl)) Q E s := by
  obtain ⟨os, hos, hcs, hds⟩ := id hs
  have hTs : s.TypeIs (.ref sl) "slice" := ⟨os, hos, hcs⟩
  unfold getItem
  try with_reducible refine wpAny_holding ?_
  first | refine wpAny_bind (wpAny_pure ?_) | skip
  apply wpAny_bind
  apply wpAny_sequenceKey ht.typeIs (by decide)
  apply wpAny_bind
  apply wpAny_callSpecial?_slot (name := Str.ofString "__getitem__") ht.typeIs PyProof.Rows.slot_tuple_getitem
  apply wpAny_call_entry PyProof.Rows.slot_tuple_getitem ht.typeIs entry_tuple_getitem ?_ (args_tuple_getitem _ _)
  show wpAny _ _ (Builtin.Tuple.tupleItemsOf (.ref t) >>= _) _ _ s
  apply wpAny_bind
  apply tupleItemsOf_ ht
  apply wpAny_bind
  apply wpAny_typeOf hTs
  rw [if_pos (by decide)]
  apply wpAny_bind
  unfold Builtin.Slice.sliceApplied Builtin.Slice.sliceFields
  refine wpAny_bind (wpAny_bind (wpAny_field hos hds (x := .none) rfl (wpAny_bind (wpAny_field hos hds (x := .none) rfl (wpAny_bind (wpAny_field hos hds (x := .int (-1) tk) rfl (wpAny_pure ?_)))))))
  refine wpAny_bind (slicePart_int ?_)
  show wpAny _ _ (if ((-1 : Int) == 0) = true then _ else _) _ _ s
  rw [if_neg (by decide)]
  refine wpAny_bind (slicePart_none (wpAny_bind (slicePart_none (wpAny_bind (wpAny_pure ?_)))))
  show wpAny _ _ (pure (((items.size : Int) - 1), (-1 : Int), Builtin.Slice.slicePlaces ((items.size : Int) - 1) (-1) (-1))) _ _ s
  rw [places_back]
  apply wpAny_pure
  have no : ¬ (((((items.size : Int) - 1) == 0 && (-1 : Int) == 1) && items.size == items.size) = true) := by simp
  show wpAny _ _ (if ((((items.size : Int) - 1) == 0 && (-1 : Int) == 1) && items.size == items.size) = true then _ else _) _ _ s
  rw [if_neg no, pick_back]
  have ok : sizeOk (.seq items.toList.reverse.toArray) := by
    show items.toList.reverse.toArray.size ≤ sizeLine
    rw [List.size_toArray, List.length_reverse, Array.length_toList]; exact hsz
  first
    | exact wpAny_bind (m := Builtin.Tuple.tupleExact _) (wpAny_newObj_type (wpAny_pure ⟨_, rfl, wpAny_pure h⟩) ok)
    | exact wpAny_bind (m := Builtin.Tuple.tupleExact _) (wpAny_newObj_type (wpAny_bind (wpAny_pure (wpAny_pure ⟨_, rfl, wpAny_pure h⟩))) ok)
theorem pe_revF {e : Expr} {te : TE} {j : Nat} {p0 p1 p2 pos : Pos} (he : PE X e te) : PE X (.Subscript e (.Slice none none (some (.UnaryOp .USub (.Constant (.int 1) j p0) p1)) p2) pos) (tRevF X.K te) := by
  have hs : PO X (some (.UnaryOp .USub (.Constant (.int 1) j p0) p1)) _ := po_some (pe_un un_neg pe_int)
  constructor
  intro pins s σ H Q I h
  refine Subscript_ (thn (he.run pins s σ H _ I h) ?_)
  rintro v s1 ⟨x, H1, I1, r1, a, xs, rfl, sq, q⟩
  obtain rfl : v = .ref a := r1
  refine wpAny_Slice ?_
  rw [evalPart_none]
  refine wpAny_pure ?_
  refine wpAny_pure ?_
  refine thn (hs.run pins s1 σ H1 (fun o H2 => o = some (-1) ∧ H2 = H1) I1 ?_) ?_
  · exact ⟨_, rfl, _, rfl, rfl, rfl⟩
  rintro vk s3 ⟨u, H3, I3, pu, rfl, rfl⟩
  obtain ⟨tk, rfl⟩ : ∃ tk, vk = .int (-1) tk := by
    cases pu with
    | int i t => exact ⟨t, rfl⟩
  have I4 : L2.Inv X pins σ H3 { s3 with heap := s3.heap.push { cls := .type "slice", data := .fields #[.none, .none, .int (-1) tk] } } := I3.kept (t' := s3.toks) fun b ob q => Heap.get?_push_of_some _ q
  obtain ⟨its, r, ht, hz⟩ := I4.tuple sq
  have many : its.toArray.size = xs.length := by rw [List.size_toArray]; exact r.length.symm
  have done := getItem_tuple_back (prog := X.prog) (w := X.w) (A := X.A) (E := X.xe) (Q := EP X pins σ Q) ht (Heap.IsSliceOf.new ..) (put_tup I4 (by simpa using r.reverse) (by rw [List.length_reverse]; exact hz) q) (by rw [many]; exact hz)
  exact tail_any (ops := [.ref a, .ref s3.heap.objs.size]) ht.typeIs PyProof.Rows.slot_tuple_getitem.lookup done (by with_unfolding_all rfl)
/-- a target x, y -/
theorem pg_two {K : PySem.W.Frag} {i j k : Nat} {x y : Str} {p1 p2 pos : Pos} (hK : X.K = K) (hc : X.calm = true) (hN : X.N.Nodup) (hi : X.N[i]? = some x) (hj : X.N[j]? = some y) (hx : Loc X.env.scope x) (hy : Loc X.env.scope y)
    (fx : X.fn x = true ∨ X.env.scope.names.lookup x = some .local := by first | exact .inl rfl | exact .inr rfl) (fy : X.fn y = true ∨ X.env.scope.names.lookup y = some .local := by first | exact .inl rfl | exact .inr rfl) :
    PG X (.Tuple [.Name x p1, .Name y p2] k pos) (gTup K 2 (gCons (gName i) (gCons (gName j) gNil))) := by
  subst hK
  exact pg_tup hc (pgs_cons (pg_name hN hi hx fx) (pgs_cons (pg_name hN hj hy fy) pgs_nil))
/-- the pairs as they lie -/
theorem pairs_raw {pins : List (Addr × Obj)} {σ : L2.St} {H : Hp} {s : Shared} (I : L2.Inv X pins σ H s) : ∀ {ps : List Addr} {kvs : List (Key × V)}, Paired (fun p kv => SqT X.K H p [kV kv.1, kv.2]) ps kvs →
    ∃ (raw : List (Value × Value)) (prs : List (Key × Value)), KV kvs prs ∧ raw.length = ps.length ∧ prs.length = ps.length ∧
      ∀ (j : Nat) (k v : Value), raw[j]? = some (k, v) → (∃ b, ps[j]? = some b ∧ IsTup s.heap b #[k, v]) ∧ ∃ key, prs[j]? = some (key, v) ∧ keyIs key k = true
  | _, _, .nil => ⟨[], [], .nil, rfl, rfl, fun j k v e => by simp at e⟩
  | _, _, .cons (a := p) (b := kv) h t => by
    obtain ⟨raw, prs, r, h1, h2, hp⟩ := pairs_raw I t
    obtain ⟨its, rv, ht, _⟩ := I.tuple h
    obtain ⟨u, y, ei, ru, ry⟩ := vals2 rv
    subst ei
    refine ⟨(u, y) :: raw, (kv.1, y) :: prs, .cons ⟨rfl, ry⟩ r, by simp [h1], by simp [h2], ?_⟩
    intro j k v e
    cases j with
    | zero =>
      cases e
      exact ⟨⟨p, rfl, ht⟩, kv.1, rfl, kV_is (P := X.prog) (w := X.w) ru⟩
    | succ j => simpa using hp j k v (by simpa using e)
/-- dict(t), t a tuple of pairs -/
theorem call_dictT (hcalm : X.calm = true) : CallR X (.type "dict") (fun xs H Q => ∃ (a : Addr) (ps : List Addr) (kvs : List (Key × V)), xs = [.ref a] ∧ Tz H a (ps.map V.ref) ∧ Paired (fun p kv => SqT X.K H p [kV kv.1, kv.2]) ps kvs ∧
    ∀ p, H p = none → Q (.ref p) (upd H p (.dK (mergeK [] kvs)))) := by
  intro pins s σ H xs us Q I r q
  obtain ⟨a, ps, kvs, rfl, hq, hp, q⟩ := q
  obtain ⟨u, rfl, rx⟩ := vals1 r
  obtain rfl : u = Value.ref a := rx
  obtain ⟨o, ea, hd⟩ := hq
  obtain ⟨ho0, hz, its, rv, o1, ho, hc, n, hdat⟩ := (show ObjOk X.prog X.w H s.heap a (.frz o (.tup (ps.map V.ref))) from I.hok a _ ea)
  rw [ho0] at ho
  cases ho
  obtain rfl := refs_at rv
  rw [List.length_map] at hz
  obtain ⟨raw, prs, rel, l1, l2, hpr⟩ := pairs_raw I hp
  have P := PairArg.tuple (prog := X.prog) (w := X.w) a (ps.map Value.ref).toArray (fun j => ps.getD j 0) raw
  refine PySem.call_dict_pairs (knd := mixKind X.prog X.w) (kvs := prs) P (I.ok.hd hcalm) ⟨⟨o, n, ho0, hc, hd, hdat⟩, by simp [l1], ?_⟩ ⟨by rw [l1, l2], ?_⟩ (by rw [l1]; exact hz) ?_
  · intro j k v e
    obtain ⟨⟨b, hb, ht⟩, _⟩ := hpr j k v e
    have eb : ps.getD j 0 = b := by simp [List.getD, hb]
    exact ⟨by simp [eb, hb], .inl (by show s.heap.IsTuple (ps.getD j 0) _; rw [eb]; exact ht)⟩
  · intro j k v e
    obtain ⟨_, key, e1, e2⟩ := hpr j k v e
    exact ⟨key, e1, e2⟩
  · intro h' tk hd' k
    have k' : ∀ b o, s.heap.get? b = some o → h'.get? b = some o := fun b o e => k b o (by simp) e
    have hm : (s.heap.objs.size == sysModules) = false := beq_eq_false_iff_ne.mpr (Nat.ne_of_gt I.big)
    have hlen : (mergeK [] kvs).length ≤ sizeLine := by
      have := length_mergeK kvs []
      rw [List.length_nil, Nat.zero_add, rel.length, l2] at this
      omega
    exact ⟨.ref s.heap.objs.size, upd H s.heap.objs.size (.dK (mergeK [] kvs)), I.laid (t' := tk) k' (Nat.le_refl _) (show ObjOk X.prog X.w _ _ _ (.dK (mergeK [] kvs)) from ⟨hlen, hm, merged [] prs, KV.merge rel .nil, hd'⟩), rfl, q _ (I.hok.fresh (Nat.le_refl _))⟩
end
end SG
namespace SG
open PySem PySem.Spec PyProof.Rows L2
/-! ### discard from a set of numbers -/
theorem erase_list {α : Type} (xs : Array α) (i : Nat) : (SetTable.eraseAt xs i).toList = xs.toList.take i ++ xs.toList.drop (i + 1) := by
  unfold SetTable.eraseAt
  rw [Array.toList_append, Array.toList_extract, Array.toList_extract]
  simp [List.extract_eq_drop_take]
  rw [List.take_of_length_le (by rw [List.length_drop, Array.length_toList]; omega)]
theorem split_at {α : Type} : ∀ {l : List α} {i : Nat} {x : α}, l[i]? = some x → l = l.take i ++ x :: l.drop (i + 1)
  | [], i, x, h => by simp at h
  | y :: r, 0, x, h => by
    simp at h
    subst h
    simp
  | y :: r, i + 1, x, h => by
    have h' : r[i]? = some x := by simpa using h
    show y :: r = y :: (r.take i ++ x :: r.drop (i + 1))
    rw [← split_at h']
theorem insert_size {α : Type} (xs : Array α) (i : Nat) (x : α) : (SetTable.insertAt xs i x).size = xs.size + 1 := by
  unfold SetTable.insertAt
  simp only [Array.size_append, Array.size_push, Array.size_extract]
  omega
theorem erase_size {α : Type} (xs : Array α) (i : Nat) (h : i < xs.size) : (SetTable.eraseAt xs i).size + 1 = xs.size := by
  unfold SetTable.eraseAt
  simp only [Array.size_append, Array.size_extract]
  omega
section
variable {P : Program} {w : World} {A : Around} {E : Value → Shared → Prop} {s : Shared} {a : Addr} {S : Int → Bool} {n : Nat}
/-- found.discard(k) -/
theorem setR_discard_hashed {k : Int} {tk : Tok} {Q : Bool → Shared → Prop} (R : SetR w s.heap a S n)
    (hQ : ∀ h' b, Heap.SameBut a s.heap h' → SetR w h' a (fun j => S j && !decide (j = k)) (if S k = true then n - 1 else n) → Q b { s with heap := h' }) :
    wpAny (model P w) A (setDiscardHashed a (.int k tk) ((intKind P w).hash k)) Q E s := by
  obtain ⟨o, es, ep, t, ho, hex, hd, g, nd, hm, hb, hf, hn, hr, hl⟩ := R
  have hkey : (intKind P w).is k (.int k tk) = true := intKind_is P w k tk
  have hsc : (Value.int k tk).scannable = true := rfl
  have hel : ElemsOf (intKind P w) es.toList := good_elems g
  unfold setDiscardHashed setFind setFindIn
  refine wpAny_bind (wpAny_bind (wpAny_setState_of ho hd hf ?_))
  dsimp only
  rw [byScan_of hsc hb hel]
  simp only [↓reduceIte]
  refine wpAny_bind (wpAny_rule ?_)
  refine wpAny_bind (wpAny_setScan_of hkey ho hd hf hel ?_)
  cases hfi : List.findIdx? (fun e => (intKind P w).is k e.2) es.toList with
  | none =>
    dsimp only
    have hnk : k ∉ es.toList.map keyOf := fun z => by
      obtain ⟨e, he, q⟩ := (good_mem (P := P) (w := w) g k).1 z
      have c := List.findIdx?_eq_none_iff.mp hfi e he
      rw [q] at c
      cases c
    have hSk : S k = false := by
      cases q : S k with
      | false => rfl
      | true => exact absurd ((hm k).1 q) hnk
    refine wpAny_pure (wpAny_pure ?_)
    have q := hQ s.heap false (Heap.SameBut.refl a s.heap) ⟨o, es, ep, t, ho, hex, hd, g, nd, fun i => by
      rw [Bool.and_eq_true, hm i]
      constructor
      · exact fun z => z.1
      · intro z
        refine ⟨z, ?_⟩
        have : ¬ i = k := fun e => hnk (e ▸ z)
        simp [this], hb, hf, by rw [hSk]; simpa using hn, hr, hl⟩
    exact q
  | some j =>
    dsimp only
    obtain ⟨hj, pj, _⟩ := List.findIdx?_eq_some_iff_getElem.mp hfi
    have hj' : j < es.size := by rw [← Array.length_toList]; exact hj
    have kj : keyOf es.toList[j] = k := (good_is (P := P) (w := w) (g _ (List.getElem_mem hj)) k).1 pj
    have hSk : S k = true := (hm k).2 ((good_mem (P := P) (w := w) g k).2 ⟨es.toList[j], List.getElem_mem hj, pj⟩)
    have hfs : t.place.size = es.size ∧ t.fill ≤ t.mask := by
      simpa [SetTable.fits, Bool.and_eq_true, beq_iff_eq, decide_eq_true_eq] using hf
    obtain ⟨pl, hpl⟩ : ∃ q, t.place[j]? = some q := ⟨_, Array.getElem?_eq_getElem (by omega)⟩
    have hdrop : t.drop j = { t with place := SetTable.eraseAt t.place j, dummies := SetTable.insertAt t.dummies (SetTable.below t.dummies pl) pl } := by
      unfold SetTable.drop
      rw [hpl]
    have sp := split_at (List.getElem?_eq_getElem hj)
    have el := erase_list es j
    have perm : es.toList.Perm (es.toList[j] :: (SetTable.eraseAt es j).toList) := by
      rw [el]
      conv => lhs; rw [sp]
      exact List.perm_middle
    have pk : (es.toList.map keyOf).Perm (k :: (SetTable.eraseAt es j).toList.map keyOf) := by
      have := perm.map keyOf
      rw [List.map_cons, kj] at this
      exact this
    have nd2 := pk.nodup_iff.mp nd
    obtain ⟨nk, nd3⟩ := List.nodup_cons.mp nd2
    have sz := erase_size es j hj'
    have hf2 : (t.drop j).fits (SetTable.eraseAt es j).size = true := by
      rw [hdrop]
      have z1 := erase_size t.place j (by omega)
      have z2 := insert_size t.dummies (SetTable.below t.dummies pl) pl
      have z3 : t.place.size + t.dummies.size ≤ t.mask := hfs.2
      show ((SetTable.eraseAt t.place j).size == (SetTable.eraseAt es j).size && decide ((SetTable.eraseAt t.place j).size + (SetTable.insertAt t.dummies (SetTable.below t.dummies pl) pl).size ≤ t.mask)) = true
      have hp := hfs.1
      rw [Bool.and_eq_true, beq_iff_eq, decide_eq_true_eq]
      omega
    have hr2 : Ris (t.drop j).place.toList := by
      rw [hdrop]
      show Ris (SetTable.eraseAt t.place j).toList
      rw [erase_list]
      have sub : (t.place.toList.take j ++ t.place.toList.drop (j + 1)).Sublist t.place.toList := by
        have q : t.place.toList[j]? = some pl := by rw [Array.getElem?_toList]; exact hpl
        conv => rhs; rw [split_at q]
        exact List.Sublist.append (List.Sublist.refl _) (List.sublist_cons_self _ _)
      exact List.Pairwise.sublist sub hr
    have hl2 : w.params.followText "set-order" = true ∨ (t.drop j).led = true := by
      rw [hdrop]
      exact hl
    have hb2 : (SetTable.eraseAt es j).size < scanBound := by omega
    refine wpAny_pure ?_
    dsimp only
    refine wpAny_bind (wpAny_setState_of ho hd hf ?_)
    dsimp only
    rw [Nat.zero_add]
    refine wpAny_bind (wpAny_storeSet_of ho hd ?_ (fits_of_scanBound hb2))
    refine wpAny_bind (wpAny_point ?_)
    refine wpAny_pure (hQ _ true (Heap.SameBut.update s.heap a _) ?_)
    have ho1 := store_at (es' := SetTable.eraseAt es j) (t' := t.drop j) ho hd
    refine ⟨_, _, _, _, ho1, hex, rfl, fun e he => g e (perm.mem_iff.mpr (List.mem_cons_of_mem _ he)), nd3, fun i => ?_, hb2, hf2, ?_, hr2, hl2⟩
    · rw [Bool.and_eq_true, hm i, pk.mem_iff, List.mem_cons]
      constructor
      · rintro ⟨e | e, q⟩
        · simp [e] at q
        · exact e
      · intro z
        have : ¬ i = k := fun e => nk (e ▸ z)
        exact ⟨.inr z, by simp [this]⟩
    · rw [if_pos hSk]
      omega
theorem setR_discard {k : Int} {tk : Tok} {Q : Value → Shared → Prop} (R : SetR w s.heap a S n)
    (hQ : ∀ h', Heap.SameBut a s.heap h' → SetR w h' a (fun j => S j && !decide (j = k)) (if S k = true then n - 1 else n) → Q .none { s with heap := h', toks := s.toks + 1 }) :
    wpAny (model P w) A (call (.builtin "set.discard") [.ref a, .int k tk]) Q E s := by
  have hS : s.heap.SetOf (intKind P w) a S n := R.setOf
  refine wpAny_call_entry PySem.F.slot_set_discard hS.typeIs PySem.F.entry_set_discard ?_ (PySem.F.args_set_discard_2 _ _)
  unfold Builtin.«set.discard» Builtin.Frozenset.oneOther
  simp only [List.isEmpty_nil, bind_assoc]
  unfold Builtin.Frozenset.addrOf Builtin.Frozenset.withSetAsKey setDiscard
  refine wpAny_bind (wpAny_pure ?_)
  try dsimp only
  refine wpAny_bind (wpAny_pure ?_)
  try dsimp only
  refine wpAny_bind (wpAny_tryCatch ?_)
  refine wpAny_holding ?_
  refine wpAny_bind ((intKind P w).pyHash (intKind_is P w k tk) ?_)
  refine setR_discard_hashed (s := { s with toks := s.toks + 1 }) R fun h' b sb r => ?_
  show wpAny _ _ (ret Value.none) _ _ _
  exact wpAny_pure ⟨_, rfl, hQ h' sb r⟩
end
section
variable {X : Cx}
/-- found.discard(k) -/
def rSDis (w : World) : V → List V → Hp → VK → Prop := fun x xs H Q => ∃ (a : Addr) (k : Int) (S : Int → Bool) (n : Nat), x = V.ref a ∧ xs = [V.int k] ∧ H a = some (SetO w a S n) ∧
  Q .non (upd H a (SetO w a (fun j => S j && !decide (j = k)) (if S k = true then n - 1 else n)))
theorem mt_sdis : MtR X "set.discard" (rSDis X.w) := by
  intro pins s σ H x xs v us Q I rx rxs h
  obtain ⟨a, k, S, n, rfl, rfl, ha, q⟩ := h
  cases rx
  cases rxs with
  | cons ry rt =>
    cases rt
    obtain ⟨tk, rfl⟩ := ry
    have R := setO_get I ha
    refine setR_discard R fun h' sb new => ?_
    have he : ∃ u, h'.get? a = some u := by
      have ⟨o, _, _, _, ho, _⟩ := new
      exact ⟨o, ho⟩
    exact ⟨.non, upd H a (SetO X.w a (fun j => S j && !decide (j = k)) (if S k = true then n - 1 else n)), I.write (e := a) (t' := s.toks + 1) (by rw [ha]; trivial) (.inl rfl) (fun b u hb hu => (sb.2 b hb).trans hu) he (setO_new new), rfl, q⟩
def tSDis (w : World) (to : TE) (t : TA) : TE := fun σ H Q => to σ H fun x H1 => (∃ a S n, x = V.ref a ∧ H1 a = some (SetO w a S n)) ∧ t σ H1 fun xs H2 => rSDis w x xs H2 Q
variable {o e : Expr} {es : List Expr} {to : TE} {t : TA} {apos cpos : Pos}
theorem pe_sdis (ho : PE X o to) (ha : PA X (e :: es) t)
    (hbase : attributeBase o "discard" X.env (eval o X.env) = eval o X.env := by rfl)
    (hfew : ((backTo cpos (starEach (e :: es) X.env)).all (fun x => !x.1) && (backToKw cpos (keywordEach [] X.env)).all (fun x => x.1.isSome)
      && decide ((e :: es).length + ([] : List Keyword).length + (if ([] : List Keyword).isEmpty then 0 else 1) < 30)) = true := by rfl)
    (hline : (apos.endLine == cpos.line) = true := by rfl) (hs : starEach (e :: es) X.env = (false, eval e X.env) :: starEach es X.env := by rfl) (hplain : (backTo cpos (starEach es X.env)).any (·.1) = false := by rfl) :
    PE X (.Call (.Attribute o "discard" apos) (e :: es) [] cpos) (tSDis X.w to t) := by
  refine ⟨fun pins s σ H Q I h => ?_⟩
  refine wpAny_Call_method_late hbase hfew hline rfl (thn (ho.run pins s σ H _ I h) fun v s1 ⟨x, H1, I1, r1, ty, q1⟩ => ?_)
  obtain ⟨a, S, n, rfl, hka⟩ := ty
  have R := setO_get I1 hka
  cases r1
  have hS : s1.heap.SetOf (intKind X.prog X.w) a S n := R.setOf
  refine ⟨"set", "set.discard", PySem.F.plainAttrs_set, PySem.F.slot_set_discard, PySem.F.type_set_discard, hS.typeIs, hS.noDict, ?_⟩
  have hA := ha.run cpos pins s1 σ H1 _ I1 q1
  rw [hs] at hA ⊢
  refine Calls.callWith_builtin (by show (false || (backTo cpos (starEach es X.env)).any (·.1)) = false; rw [hplain] <;> rfl) (Calls.evalArgs_plain ?_)
  exact thn hA fun us s2 ⟨vs, H2, I2, r2, q2⟩ => mt_sdis pins s2 σ H2 (.ref a) vs (.ref a) us Q I2 rfl r2 q2
end
end SG
namespace SG
open PySem PySem.Spec PyProof.Rows L2
section
variable {X : Cx} {e : Expr} {te : TE}
/-- a bound of a slice that may be None -/
def tPartO (t : TE) : TO := fun σ H Q => t σ H fun x H1 => (x = .non ∧ Q none H1) ∨ ∃ i, x = .int i ∧ Q (some i) H1
theorem po_opt (h : PE X e te) : PO X (some e) (tPartO te) := by
  refine ⟨fun pins s σ H Q I hw => ?_⟩
  rw [evalPart_some]
  refine thn (h.run pins s σ H _ I hw) fun u s1 ⟨x, H1, I1, r1, q1⟩ => ?_
  rcases q1 with ⟨rfl, q⟩ | ⟨i, rfl, q⟩
  · obtain rfl : u = Value.none := r1
    exact ⟨none, H1, I1, .none, q⟩
  · obtain ⟨t, rfl⟩ := r1
    exact ⟨some i, H1, I1, .int i t, q⟩
/-- str(x), x a number or a text -/
def rStrIS : List V → Hp → VK → Prop := fun xs H Q => (∃ i, xs = [.int i] ∧ i.natAbs.log2 < 1920 ∧ Q (.str (toString i)) H) ∨ ∃ a, xs = [.str a] ∧ Q (.str a) H
theorem call_strIS : CallR X (.type "str") rStrIS := by
  intro pins s σ H xs us Q I r h
  rcases h with h | h
  · exact call_str_int pins s σ H xs us Q I r h
  · exact SkE.call_str_str pins s σ H xs us Q I r h
end
end SG
namespace SG
open PySem PySem.Spec PyProof.Rows L2
def top (i : Nat) : Stmt := PySem.Challenge.pw_strokeguess_k05_touches_or_not.main.body.getD i (.Pass ⟨0, 0, 0, 0⟩)

structure Txt (K : PySem.W.Frag) (mg : Str → Option Value) : Prop where
  m_bool : mg "bool" = none
  m_enumerate : mg "enumerate" = none
  m_int : mg "int" = none
  m_isinstance : mg "isinstance" = none
  m_len : mg "len" = none
  m_list : mg "list" = none
  m_max : mg "max" = none
  m_range : mg "range" = none
  m_set : mg "set" = none
  m_str : mg "str" = none
  m_tuple : mg "tuple" = none
  mFARTHESTx : ∃ t, mg "FARTHEST" = some (.int 10000 t)
  mLAST_MOMENTx : ∃ t, mg "LAST_MOMENT" = some (.int 1000000000 t)
  mLAST_FINGERx : ∃ t, mg "LAST_FINGER" = some (.int 9 t)
  mTOUCH_WORDSx : ∃ a, mg "TOUCH_WORDS" = some (.ref a) ∧ ∀ H : Hp, SqT K H a [.str "down", .str "move", .str "up", .str "lost"]
  mOVER_WORDSx : ∃ a, mg "OVER_WORDS" = some (.ref a) ∧ ∀ H : Hp, SqT K H a [.str "up", .str "lost"]
abbrev sis_between : Stmt := top 2
abbrev Nis_between : List Str := ["thing", "least", "most"]
theorem scis_between : FnScope Nis_between ["thing", "least", "most"] (defScope sis_between) := ⟨rfl, rfl, rfl, by decide +kernel, rfl, by decide +kernel, by decide +kernel⟩

abbrev sis_coordinate : Stmt := top 3
abbrev Nis_coordinate : List Str := ["thing"]
theorem scis_coordinate : FnScope Nis_coordinate ["thing"] (defScope sis_coordinate) := ⟨rfl, rfl, rfl, by decide +kernel, rfl, by decide +kernel, by decide +kernel⟩

abbrev sis_row : Stmt := top 4
abbrev Nis_row : List Str := ["thing", "many"]
theorem scis_row : FnScope Nis_row ["thing", "many"] (defScope sis_row) := ⟨rfl, rfl, rfl, by decide +kernel, rfl, by decide +kernel, by decide +kernel⟩

abbrev sis_moment : Stmt := top 10
abbrev Nis_moment : List Str := ["thing"]
theorem scis_moment : FnScope Nis_moment ["thing"] (defScope sis_moment) := ⟨rfl, rfl, rfl, by decide +kernel, rfl, by decide +kernel, by decide +kernel⟩

abbrev sis_touch : Stmt := top 11
abbrev Nis_touch : List Str := ["thing", "moment", "finger", "word", "x", "y"]
theorem scis_touch : FnScope Nis_touch ["thing"] (defScope sis_touch) := ⟨rfl, rfl, rfl, by decide +kernel, rfl, by decide +kernel, by decide +kernel⟩

abbrev sfirst_wrong : Stmt := top 12
abbrev Nfirst_wrong : List Str := ["touches", "last", "fingers", "at", "touch", "moment", "finger", "word", "_"]
theorem scfirst_wrong : FnScope Nfirst_wrong ["touches"] (defScope sfirst_wrong) := ⟨rfl, rfl, rfl, by decide +kernel, rfl, by decide +kernel, by decide +kernel⟩

abbrev sstrokes_of : Stmt := top 13
abbrev Nstrokes_of : List Str := ["touches", "strokes", "going", "touch", "_", "finger", "word"]
theorem scstrokes_of : FnScope Nstrokes_of ["touches"] (defScope sstrokes_of) := ⟨rfl, rfl, rfl, by decide +kernel, rfl, by decide +kernel, by decide +kernel⟩

abbrev s_law_tape : Stmt := top 15
abbrev N_law_tape : List Str := ["_law_script"]
theorem sc_law_tape : FnScope N_law_tape ["_law_script"] (defScope s_law_tape) := ⟨rfl, rfl, rfl, by decide +kernel, rfl, by decide +kernel, by decide +kernel⟩

abbrev s_law_draw : Stmt := top 16
abbrev N_law_draw : List Str := ["_law_tape_here", "_law_many", "_law_found", "_law_spot", "_law_cells", "_law_cell", "_law_great", "_law_primes", "_law_prime", "_law_seed"]
theorem sc_law_draw : FnScope N_law_draw ["_law_tape_here", "_law_many"] (defScope s_law_draw) := ⟨rfl, rfl, rfl, by decide +kernel, rfl, by decide +kernel, by decide +kernel⟩

abbrev s_law_whole : Stmt := top 17
abbrev N_law_whole : List Str := ["_law_thing", "_law_least", "_law_most"]
theorem sc_law_whole : FnScope N_law_whole ["_law_thing", "_law_least", "_law_most"] (defScope s_law_whole) := ⟨rfl, rfl, rfl, by decide +kernel, rfl, by decide +kernel, by decide +kernel⟩

abbrev s_law_is_touch : Stmt := top 18
abbrev N_law_is_touch : List Str := ["_law_thing"]
theorem sc_law_is_touch : FnScope N_law_is_touch ["_law_thing"] (defScope s_law_is_touch) := ⟨rfl, rfl, rfl, by decide +kernel, rfl, by decide +kernel, by decide +kernel⟩

abbrev s_law_bent : Stmt := top 19
abbrev N_law_bent : List Str := ["_law_tape_here", "_law_touch", "_law_at", "_law_thing", "_law_some", "_law_other"]
theorem sc_law_bent : FnScope N_law_bent ["_law_tape_here", "_law_touch"] (defScope s_law_bent) := ⟨rfl, rfl, rfl, by decide +kernel, rfl, by decide +kernel, by decide +kernel⟩

abbrev s_law_rows : Stmt := top 20
abbrev N_law_rows : List Str := ["_law_tape_here", "_law_many", "_law_strict", "_law_down", "_law_moment", "_law_found", "_law_k", "_law_finger", "_law_word", "_law_one"]
theorem sc_law_rows : FnScope N_law_rows ["_law_tape_here", "_law_many", "_law_strict"] (defScope s_law_rows) := ⟨rfl, rfl, rfl, by decide +kernel, rfl, by decide +kernel, by decide +kernel⟩

abbrev s_law_due : Stmt := top 21
abbrev N_law_due : List Str := ["_law_touches", "_law_down", "_law_k", "_law_moment", "_law_finger", "_law_word", "_law_x", "_law_y", "_law_one"]
theorem sc_law_due : FnScope N_law_due ["_law_touches"] (defScope s_law_due) := ⟨rfl, rfl, rfl, by decide +kernel, rfl, by decide +kernel, by decide +kernel⟩

abbrev s_law_strokes : Stmt := top 22
abbrev N_law_strokes : List Str := ["_law_touches", "_law_found", "_law_k", "_law_more", "_law_ends", "_law_one", "_law_j"]
theorem sc_law_strokes : FnScope N_law_strokes ["_law_touches"] (defScope s_law_strokes) := ⟨rfl, rfl, rfl, by decide +kernel, rfl, by decide +kernel, by decide +kernel⟩

abbrev slaw : Stmt := top 23
abbrev Nlaw : List Str := ["_law_script", "_law_tape_here", "_law_turn", "_law_touches", "_law_kept", "_law_right", "_law_touch", "_law_thing", "_law_found"]
theorem sclaw : FnScope Nlaw ["_law_script"] (defScope slaw) := ⟨rfl, rfl, rfl, by decide +kernel, rfl, by decide +kernel, by decide +kernel⟩

end SG
namespace SG
open PySem PySem.Spec PyProof.Rows L2
/-! ### data in a heap that grows -/
theorem same_sqT {K : PySem.W.Frag} {H H' : Hp} {a : Addr} {xs : List V} (e : Same H H') (h : SqT K H a xs) : SqT K H' a xs := Same.tup e h
theorem same_sqL {K : PySem.W.Frag} {H H' : Hp} {a : Addr} {xs : List V} (e : Same H H') (h : SqL K H a xs) : SqL K H' a xs := by
  rcases h with (h | ⟨o, h⟩) | h
  · exact .inl (.inl (e _ _ h))
  · exact .inl (.inr ⟨o, e _ _ h⟩)
  · exact .inr h
mutual
theorem Dp.same {K : PySem.W.Frag} {H H' : Hp} (e : Same H H') : ∀ {d : PyData} {v : V}, Dp K H v d → Dp K H' v d
  | _, _, .non => .non
  | _, _, .bl b => .bl b
  | _, _, .int i => .int i
  | _, _, .str x => .str x
  | _, _, .lst a b => .lst (same_sqL e a) (DpAll.same e b)
  | _, _, .tup a b => .tup (same_sqT e a) (DpAll.same e b)
theorem DpAll.same {K : PySem.W.Frag} {H H' : Hp} (e : Same H H') : ∀ {ds : List PyData} {vs : List V}, DpAll K H vs ds → DpAll K H' vs ds
  | _, _, .nil => .nil
  | _, _, .cons h t => .cons (Dp.same e h) (DpAll.same e t)
end
mutual
theorem Dp.plain {K : PySem.W.Frag} {H : Hp} : ∀ {d : PyData} {v : V}, Dp K H v d → d.plain = true
  | _, _, .non => rfl
  | _, _, .bl _ => rfl
  | _, _, .int _ => rfl
  | _, _, .str _ => rfl
  | _, _, .lst _ a => DpAll.plain a
  | _, _, .tup _ a => DpAll.plain a
theorem DpAll.plain {K : PySem.W.Frag} {H : Hp} : ∀ {ds : List PyData} {vs : List V}, DpAll K H vs ds → PyData.plainAll ds = true
  | _, _, .nil => rfl
  | _, _, .cons h t => by
    show (PyData.plain _ && PyData.plainAll _) = true
    rw [Dp.plain h, DpAll.plain t]; rfl
end
theorem DpAll.len {K : PySem.W.Frag} {H : Hp} : ∀ {ds : List PyData} {vs : List V}, DpAll K H vs ds → vs.length = ds.length
  | _, _, .nil => rfl
  | _, _, .cons _ t => by simp [DpAll.len t]
theorem DpAll.get {K : PySem.W.Frag} {H : Hp} : ∀ {ds : List PyData} {vs : List V}, DpAll K H vs ds → ∀ {i : Nat} {d : PyData}, ds[i]? = some d → ∃ v, vs[i]? = some v ∧ Dp K H v d
  | _, _, .nil, i, d, h => by simp at h
  | _, _, .cons a t, 0, d, h => by
    simp only [List.getElem?_cons_zero, Option.some.injEq] at h
    subst h
    exact ⟨_, rfl, a⟩
  | _, _, .cons a t, i + 1, d, h => by
    simp only [List.getElem?_cons_succ] at h
    obtain ⟨v, e, q⟩ := DpAll.get t h
    exact ⟨v, by simpa using e, q⟩
theorem dp_strs {K : PySem.W.Frag} {H : Hp} : ∀ ss : List Str, DpAll K H (ss.map V.str) (ss.map PyData.str)
  | [] => .nil
  | s :: ss => .cons (.str s) (dp_strs ss)
def bet (d : PyData) (lo hi : Int) : Bool := match d with | .int i => decide (lo ≤ i) && decide (i ≤ hi) | _ => false
def inL (ss : List Str) (d : PyData) : Bool := (ss.map PyData.str).any fun e => PyData.eqv e d
theorem eqv_str {a : Str} {d : PyData} (h : PyData.eqv (.str a) d = true) : d = .str a := by
  cases d <;> simp [PyData.eqv] at h
  · rw [h]
theorem inL_str {ss : List Str} {d : PyData} (h : inL ss d = true) : ∃ s, s ∈ ss ∧ d = .str s := by
  unfold inL at h
  rw [List.any_map, List.any_eq_true] at h
  obtain ⟨s, hs, e⟩ := h
  exact ⟨s, hs, eqv_str e⟩
theorem inL_of {ss : List Str} {s : Str} (h : s ∈ ss) : inL ss (.str s) = true := by
  unfold inL
  rw [List.any_map, List.any_eq_true]
  exact ⟨s, h, by simp [PyData.eqv]⟩
def rowN (n : Nat) : PyData → Bool
  | .tuple ds => decide (ds.length = n)
  | _ => false
theorem Dp.tupOf {K : PySem.W.Frag} {H : Hp} {x : V} {ds : List PyData} (h : Dp K H x (.tuple ds)) : ∃ a xs, x = .ref a ∧ SqT K H a xs ∧ DpAll K H xs ds := by
  cases h with
  | tup a b => exact ⟨_, _, rfl, a, b⟩
theorem inV_strs (s : Str) (ss : List Str) : inV (.str s) (ss.map V.str) = ss.any (· == s) := by
  unfold inV
  rw [List.any_map]
  rfl
theorem inL_strs (ss : List Str) (z : Str) : inL ss (.str z) = ss.any (· == z) := by
  unfold inL
  rw [List.any_map]
  induction ss with
  | nil => rfl
  | cons s r ih =>
    rw [List.any_cons, List.any_cons, ih]
    rfl
end SG
namespace SG
open PySem PySem.Spec PyProof.Rows L2
/-! ### the tape -/
def tapeD (c : Addr) (s l : Int) : List (Key × V) := [(Sum.inr "cells", .ref c), (Sum.inr "spot", .int s), (Sum.inr "left", .int l)]
theorem k12 : ¬ (Sum.inr ("cells" : Str) : Key) = Sum.inr ("spot" : Str) := by decide +kernel
theorem k13 : ¬ (Sum.inr ("cells" : Str) : Key) = Sum.inr ("left" : Str) := by decide +kernel
theorem k23 : ¬ (Sum.inr ("spot" : Str) : Key) = Sum.inr ("left" : Str) := by decide +kernel
theorem k32 : ¬ (Sum.inr ("left" : Str) : Key) = Sum.inr ("spot" : Str) := by decide +kernel
theorem n12 : ¬ ("cells" : Str) = ("spot" : Str) := by decide +kernel
theorem n13 : ¬ ("cells" : Str) = ("left" : Str) := by decide +kernel
theorem n23 : ¬ ("spot" : Str) = ("left" : Str) := by decide +kernel
theorem n32 : ¬ ("left" : Str) = ("spot" : Str) := by decide +kernel
theorem len3 {c : Addr} {s l : Int} : (tapeD c s l).length < sizeLine := by show 3 < sizeLine; decide
/-- a tape stands at t, of which at most n cells were taken -/
def TapeAt (H : Hp) (t c : Addr) (n : Nat) : Prop :=
  ∃ (cs : List Int) (s l : Int), H t = some (.dK (tapeD c s l)) ∧ H c = some (.lst (cs.map V.int)) ∧ 0 ≤ s ∧ s ≤ (n : Int) ∧ 0 ≤ l ∧ cs.length ≤ 63
section
variable {K : PySem.W.Frag} {H H' : Hp} {t c : Addr} {s l v : Int} {n m : Nat}
theorem tape_cells (h : H t = some (.dK (tapeD c s l))) : DGet H t (.str "cells") (some (.ref c)) := DGet.k (k := Sum.inr "cells") h
theorem tape_spot (h : H t = some (.dK (tapeD c s l))) : DGet H t (.str "spot") (some (.int s)) := by
  have e : valV (tapeD c s l) (Sum.inr ("spot" : Str) : Key) = some (.int s) := by
    unfold tapeD
    rw [valV_neg k12, valV_pos rfl]
  have q := DGet.k (k := Sum.inr "spot") h
  rw [e] at q
  exact q
theorem tape_left (h : H t = some (.dK (tapeD c s l))) : DGet H t (.str "left") (some (.int l)) := by
  have e : valV (tapeD c s l) (Sum.inr ("left" : Str) : Key) = some (.int l) := by
    unfold tapeD
    rw [valV_neg k13, valV_neg k23, valV_pos rfl]
  have q := DGet.k (k := Sum.inr "left") h
  rw [e] at q
  exact q
theorem key_ne {a b : Str} (h : ¬ a = b) : ¬ (Sum.inr a : Key) = Sum.inr b := fun e => h (Sum.inr.inj e)
theorem tape_put_left (h : H t = some (.dK (tapeD c s l))) : DPut H t (.str "left") (.int v) (upd H t (.dK (tapeD c s v))) := by
  have e : putK (tapeD c s l) (Sum.inr ("left" : Str) : Key) (.int v) = tapeD c s v := by
    simp [putK, tapeD, n13, n23]
  have q := DPut.k (k := Sum.inr "left") (v := .int v) h len3
  rw [e] at q
  exact q
theorem tape_put_spot (h : H t = some (.dK (tapeD c s l))) : DPut H t (.str "spot") (.int v) (upd H t (.dK (tapeD c v l))) := by
  have e : putK (tapeD c s l) (Sum.inr ("spot" : Str) : Key) (.int v) = tapeD c v l := by
    simp [putK, tapeD, n12, n32]
  have q := DPut.k (k := Sum.inr "spot") (v := .int v) h len3
  rw [e] at q
  exact q
/-- a list is no dict: it stays where only a dict changes -/
theorem sq_ne {xs : List V} {kvs : List (Key × V)} (hc : SqL K H c xs) (ht : H t = some (.dK kvs)) (f : Fr [t] H H') : SqL K H' c xs := by
  rcases hc with (h | ⟨o, h⟩) | h
  · exact .inl (.inl (f _ _ h (by simp only [List.mem_singleton]; exact ne_of h ht (by intro z; cases z))))
  · exact .inl (.inr ⟨o, f _ _ h (by simp only [List.mem_singleton]; exact ne_of h ht (by intro z; cases z))⟩)
  · exact .inr h
theorem TapeAt.mono (h : TapeAt H t c n) (q : n ≤ m) : TapeAt H t c m := by
  obtain ⟨cs, s, l, h1, h2, h3, h4, h5, h6⟩ := h
  exact ⟨cs, s, l, h1, h2, h3, by omega, h5, h6⟩
theorem TapeAt.same (h : TapeAt H t c n) (q : Same H H') : TapeAt H' t c n := by
  obtain ⟨cs, s, l, h1, h2, h3, h4, h5, h6⟩ := h
  exact ⟨cs, s, l, q _ _ h1, q _ _ h2, h3, h4, h5, h6⟩
theorem TapeAt.tp (h : TapeAt H t c n) (q : Fr [t] H H') : Tp H H' := fun b xs e => by
  obtain ⟨cs, s, l, h1, h2, h3, h4, h5, h6⟩ := h
  exact q _ _ e (by simp only [List.mem_singleton]; exact ne_of e h1 (by intro z; cases z))
theorem TapeAt.is (h : TapeAt H t c n) : ∃ kvs, H t = some (.dK kvs) := by
  obtain ⟨cs, s, l, h1, _⟩ := h
  exact ⟨_, h1⟩
theorem at_of' {α : Type} {xs : List α} {z : Int} {j : Nat} {v : α} (e : z = (j : Int)) (h : xs[j]? = some v) : atI xs z = some v := by
  rw [e]
  exact atI_nat h
theorem at_in {α : Type} {xs : List α} {i : Int} (h0 : 0 ≤ i) (h1 : i < xs.length) : ∃ x, x ∈ xs ∧ atI xs i = some x := by
  have hk : i.toNat < xs.length := by omega
  refine ⟨xs[i.toNat], List.getElem_mem hk, ?_⟩
  exact at_of' (j := i.toNat) (by omega) (List.getElem?_eq_getElem hk)
theorem at_ints {cs : List Int} {i : Int} (h0 : 0 ≤ i) (h1 : i < cs.length) : ∃ z, atI (cs.map V.int) i = some (.int z) := by
  obtain ⟨x, hx, e⟩ := at_in (xs := cs.map V.int) h0 (by rw [List.length_map]; exact h1)
  obtain ⟨z, _, rfl⟩ := List.mem_map.mp hx
  exact ⟨z, e⟩
/-- cells or [0] -/
theorem or_new {σ : L2.St} {Q : VK} {cs : List Int} (hS : SqL K H c (cs.map V.int)) (hl : cs.length ≤ 63)
    (k : ∀ c' cs' H', Same H H' → 0 < cs'.length → cs'.length ≤ 63 → SqL K H' c' (List.map V.int cs') → Q (.ref c') H') :
    ∃ b, TruV K (.ref c) H b ∧ if b = true then Q (.ref c) H else tLst (tCons (tC (.int 0)) tNil) σ H Q := by
  refine ⟨_, Or.inl ⟨_, hS, rfl⟩, ?_⟩
  cases cs with
  | nil =>
    refine iteF ?_
    refine ⟨(by show 1 ≤ sizeLine; decide), fun p hp => ?_⟩
    exact k p [0] _ (same_new hp) (by decide) (by decide) (SqL.of upd_same)
  | cons z r =>
    refine iteT ?_
    exact k c (z :: r) H (Same.refl H) (by simp) hl hS
end
/-! ### a draw -/
def spDraw : Sp := fun vs H Q _ => ∃ (t c : Addr) (m : Int) (n : Nat), vs = [.ref t, .int m] ∧ TapeAt H t c n ∧ (1 ≤ m ∧ m ≤ 1000000) ∧ n ≤ 1000000000 ∧
  ∀ (r : Int) (H' : Hp), (0 ≤ r ∧ r < m) → TapeAt H' t c (n + 1) → Fr [t] H H' → Q (.int r) H'
def spNone : Sp := fun _ _ _ _ => False
theorem pw18 : CPowG 10 18 := ⟨by decide, by decide +kernel⟩
theorem pw6e : (10 : Int) ^ (6 : Int).toNat = 1000000 := by decide
theorem pw6 : CPowG 10 6 := ⟨by decide, by decide +kernel⟩
theorem pw50 : CPowG 10 50 := ⟨by decide, by decide +kernel⟩
theorem pw60 : CPowG (10 ^ (50 : Int).toNat) 60 := ⟨by decide, by decide +kernel⟩
theorem pw10 : CPowG ((10 ^ (50 : Int).toNat) ^ (60 : Int).toNat) 10 := ⟨by decide, by decide +kernel⟩
def primes : List Int := [2147483647, 2147483629, 2147483587, 2147483579, 2147483563, 2147483549, 2147483543]
theorem prime_at {i : Int} (h0 : 0 ≤ i) (h1 : i < 7) : ∃ q : Int, atI (primes.map V.int) i = some (.int q) ∧ 1000000000 ≤ q ∧ q ≤ 2147483647 := by
  have hk : i.toNat < 7 := by omega
  have e : i = ((i.toNat : Nat) : Int) := by omega
  rw [e]
  generalize i.toNat = j at *
  match j, hk with
  | 0, _ => exact ⟨_, atI_nat rfl, by decide, by decide⟩
  | 1, _ => exact ⟨_, atI_nat rfl, by decide, by decide⟩
  | 2, _ => exact ⟨_, atI_nat rfl, by decide, by decide⟩
  | 3, _ => exact ⟨_, atI_nat rfl, by decide, by decide⟩
  | 4, _ => exact ⟨_, atI_nat rfl, by decide, by decide⟩
  | 5, _ => exact ⟨_, atI_nat rfl, by decide, by decide⟩
  | 6, _ => exact ⟨_, atI_nat rfl, by decide, by decide⟩
  | j + 7, h => exact absurd h (by omega)
theorem big_pos : (0 : Int) < ((10 ^ (50 : Int).toNat) ^ (60 : Int).toNat) ^ (10 : Int).toNat := Int.pow_pos (Int.pow_pos (Int.pow_pos (by decide)))
section
variable {P : Program} {w : World} {K : PySem.W.Frag} {mg : Str → Option Value} {base : Heap}
theorem ok_draw (D : Df K mg "_law_draw" s_law_draw ["_law_tape_here", "_law_many"]) (T : Txt K mg) : Cl P w K mg base 1 "_law_draw" spDraw := by
  have c_law_draw : Cl P w K mg base 0 "_law_draw" spNone := D.none fun _ _ _ _ h => h
  refine D.ok sc_law_draw (fun vs H Q E h => ?_) (fun f cdv A outer s H vs Q E hr h => ?_)
  · obtain ⟨t, c, m, n, rfl, _⟩ := h
    rfl
  obtain ⟨t, c, m, n, rfl, ⟨cs, s, l, ht, hcl, s0, sn, l0, h63⟩, ⟨m1, m6⟩, hn, k⟩ := h
  have hu := hu_of hr
  have hc : SqL K H c (cs.map V.int) := SqL.of hcl
  have ctn : c ∉ [t] := by simp only [List.mem_singleton]; exact ne_of hcl ht (by intro z; cases z)
  refine ⟨_, -- if _law_tape_here['left'] > 0:
    (pss_cons (ps_if (pt_cmpR op_gt (pe_dget hu (pv 0) pe_str (fun _ _ => rfl)) pe_int (nomark _))
      (pss_cons (ps_set (i := 2) sc_law_draw.nd rfl (Or.inl rfl) (pe_op op_mod (pe_dget hu (pv 0) pe_str (fun _ _ => rfl)) (pv 1)))
      (pss_cons (ps_dput hu (pv 0) pe_str (pe_op op_fdiv (pe_dget hu (pv 0) pe_str (fun _ _ => rfl)) (pv 1)) rfl)
      (pss_one (ps_ret (pv 2)))))
      pss_nil)
    (pss_cons (ps_set (i := 3) sc_law_draw.nd rfl (Or.inl rfl) (pe_dget hu (pv 0) pe_str (fun _ _ => rfl)))
    (pss_cons (ps_dput hu (pv 0) pe_str (pe_op op_add (pv 3) pe_int) rfl)
    (pss_cons (ps_set (i := 4) sc_law_draw.nd rfl (Or.inl rfl) (pe_orT (pe_dget hu (pv 0) pe_str (fun _ _ => rfl)) (pe_one (pe_lst (pa_cons pe_int pa_nil)))))
    (pss_cons (ps_set (i := 5) sc_law_draw.nd rfl (Or.inl rfl) (pe_ix ix_list (pv 4) (pe_op op_mod (pv 3) (pe_callB call_len_seq (by rfl) T.m_len PySem.boot_len (pa_cons (pv 4) pa_nil))) (fun _ _ => rfl)))
    (C8.pss_cut (ps_if (PW.pt (pw_and (pt_cmpR op_ge (pv 5) (pe_op op_powG pe_int pe_int) (nomark _)) (pw_and1 (pt_cmpR op_lt (pv 3) (pe_callB call_len_seq (by rfl) T.m_len PySem.boot_len (pa_cons (pv 4) pa_nil)) (nomark _)))))
      (pss_cons (ps_set (i := 6) sc_law_draw.nd rfl (Or.inl rfl) (pe_op op_mod (pe_op op_sub (pv 5) (pe_op op_powG pe_int pe_int)) (pe_op op_powG (pe_op op_powG (pe_op op_powG pe_int pe_int) pe_int) pe_int)))
      (pss_cons (ps_dput hu (pv 0) pe_str (pe_op op_fdiv (pv 6) (pv 1)) rfl)
      (pss_one (ps_ret (pe_op op_mod (pv 6) (pv 1))))))
      pss_nil)
    (pss_cons (ps_set (i := 7) sc_law_draw.nd rfl (Or.inl rfl) (pe_lst (pa_cons pe_int (pa_cons pe_int (pa_cons pe_int (pa_cons pe_int (pa_cons pe_int (pa_cons pe_int (pa_cons pe_int pa_nil)))))))))
    (pss_cons (ps_set (i := 8) sc_law_draw.nd rfl (Or.inl rfl) (pe_ix ix_list (pv 7) (pe_op op_mod (pv 3) pe_int) (fun _ _ => rfl)))
    (pss_cons (ps_set (i := 9) sc_law_draw.nd rfl (Or.inl rfl) (pe_op op_mod (pe_op op_add (pe_op op_add (pe_op op_add (pe_op op_mul (pe_op op_mod (pv 5) (pv 8)) pe_int) (pe_op op_mul (pe_op op_mul pe_int (pv 3)) (pv 3))) (pe_op op_mul pe_int (pv 3))) pe_int) (pv 8)))
    (pss_cons (ps_set (i := 9) sc_law_draw.nd rfl (Or.inl rfl) (pe_op op_mod (pe_op op_mul (pv 9) (pe_op op_add (pv 9) pe_int)) (pe_ix ix_list (pv 7) (pe_op op_mod (pe_op op_add (pv 3) pe_int) pe_int) (fun _ _ => rfl))))
    (pss_cons (ps_set (i := 2) sc_law_draw.nd rfl (Or.inl rfl) (pe_op op_fdiv (pe_op op_mod (pe_op op_mul (pv 9) (pv 9)) (pv 8)) pe_int))
    (pss_cons (ps_if (pt_cmpR op_gt (pv 1) (pe_op op_powG pe_int pe_int) (nomark _))
      (pss_one (ps_set (i := 2) sc_law_draw.nd rfl (Or.inl rfl) (pe_op op_add (pe_op op_mod (pv 2) (pe_op op_powG pe_int pe_int)) (pe_op op_mul (pe_op op_powG pe_int pe_int) (pe_cl c_law_draw (hr.mono (by first | decide | omega)) rfl (pa_cons (pv 0) (pa_cons (pe_op op_add (pe_op op_fdiv (pv 1) (pe_op op_powG pe_int pe_int)) pe_int) pa_nil)))))))
      pss_nil)
    (pss_one (ps_ret (pe_op op_mod (pv 2) (pv 1)))))))))))))))), ?_⟩
  refine ⟨_, rfl, t, _, rfl, tape_left ht, _, _, rfl, rfl, _, rfl, ?_⟩
  refine ite2 (fun p => ?_) (fun p => ?_)
  · have lp : 0 < l := of_decide_eq_true p
    refine ⟨_, rfl, t, _, rfl, tape_left ht, _, rfl, _, _, rfl, rfl, (by omega), ?_⟩
    refine ⟨_, rfl, t, _, rfl, tape_left ht, _, rfl, _, _, rfl, rfl, ⟨by omega, by omega⟩, _, rfl, t, _, rfl, tape_put_left ht, ?_⟩
    refine ⟨_, rfl, ?_⟩
    have f1 : Fr [t] H (upd H t (.dK (tapeD c s (l / m)))) := Fr.put (by simp)
    exact k _ _ ⟨Int.emod_nonneg _ (by omega), Int.emod_lt_of_pos _ (by omega)⟩ ⟨cs, s, l / m, upd_same, f1 _ _ hcl ctn, s0, by omega, Int.ediv_nonneg l0 (by omega), h63⟩ f1
  · -- spot
    refine ⟨_, rfl, t, _, rfl, tape_spot ht, ?_⟩
    refine ⟨_, rfl, _, _, rfl, rfl, _, rfl, t, _, rfl, tape_put_spot ht, ?_⟩
    have f1 : Fr [t] H (upd H t (.dK (tapeD c (s + 1) l))) := Fr.put (by simp)
    have ht1 : (upd H t (.dK (tapeD c (s + 1) l))) t = some (.dK (tapeD c (s + 1) l)) := upd_same
    have hc1 := sq_ne hc ht f1
    generalize (upd H t (.dK (tapeD c (s + 1) l))) = H1 at *
    refine ⟨_, rfl, t, _, rfl, tape_cells ht1, or_new hc1 h63 fun c2 cs2 H2 sm2 p2 l2 hc2 => ?_⟩
    have ht2 := sm2 _ _ ht1
    have hc12 := sm2.seq hc1
    have f2 := f1.trans (Fr.same sm2 _)
    have hl2 : (cs2.map V.int).length = cs2.length := List.length_map _
    have i0 : 0 ≤ s % (((cs2.map V.int).length : Nat) : Int) := Int.emod_nonneg _ (by omega)
    have i1 : s % (((cs2.map V.int).length : Nat) : Int) < (cs2.length : Int) := by
      rw [hl2]
      exact Int.emod_lt_of_pos _ (by omega)
    obtain ⟨cell, hcell⟩ := at_ints i0 i1
    refine ⟨_, rfl, _, rfl, _, rfl, c2, _, rfl, .inl hc2, _, _, rfl, rfl, (by rw [hl2]; omega), c2, _, _, _, rfl, rfl, hc2, hcell, ?_⟩
    refine ⟨fun σ' H' => σ' = [some (.ref t), some (.int m), none, some (.int s), some (.ref c2), some (.int cell), none, none, none, none] ∧ H' = H2, ?_, ?_⟩
    · refine ⟨_, rfl, _, _, rfl, rfl, pw18, _, _, rfl, rfl, _, rfl, ?_⟩
      refine ite2 (fun p3 => ?_) (fun p3 => ⟨rfl, rfl⟩)
      refine ⟨_, rfl, _, rfl, c2, _, rfl, .inl hc2, _, _, rfl, rfl, _, rfl, ?_⟩
      refine ite2 (fun p4 => ?_) (fun p4 => ⟨rfl, rfl⟩)
      refine ⟨_, rfl, _, _, rfl, rfl, pw18, _, _, rfl, rfl, _, _, rfl, rfl, pw50, _, _, rfl, rfl, pw60, _, _, rfl, rfl, pw10, _, _, rfl, rfl, big_pos, ?_⟩
      have g0 : 0 ≤ (cell - 10 ^ (18 : Int).toNat) % ((10 ^ (50 : Int).toNat) ^ (60 : Int).toNat) ^ (10 : Int).toNat := Int.emod_nonneg _ (Int.ne_of_gt big_pos)
      dsimp only
      generalize (cell - 10 ^ (18 : Int).toNat) % ((10 ^ (50 : Int).toNat) ^ (60 : Int).toNat) ^ (10 : Int).toNat = gr at *
      refine ⟨_, rfl, _, rfl, _, _, rfl, rfl, ⟨by omega, by omega⟩, _, rfl, t, _, rfl, tape_put_left ht2, ?_⟩
      refine ⟨_, rfl, _, rfl, _, _, rfl, rfl, (by omega), ?_⟩
      have f3 : Fr [t] H2 (upd H2 t (.dK (tapeD c (s + 1) (gr / m)))) := Fr.put (by simp)
      exact k _ _ ⟨Int.emod_nonneg _ (by omega), Int.emod_lt_of_pos _ (by omega)⟩ ⟨cs, s + 1, gr / m, upd_same, (f2.trans f3) _ _ hcl ctn, by omega, by omega, Int.ediv_nonneg g0 (by omega), h63⟩ (f2.trans f3)
    · rintro σ' H' ⟨rfl, rfl⟩
      refine ⟨(by show 7 ≤ sizeLine; decide), fun pr hpr => ?_⟩
      have sm3 := same_new (o := .lst [V.int 2147483647, .int 2147483629, .int 2147483587, .int 2147483579, .int 2147483563, .int 2147483549, .int 2147483543]) hpr
      have hP : SqL K (upd H' pr (.lst [V.int 2147483647, .int 2147483629, .int 2147483587, .int 2147483579, .int 2147483563, .int 2147483549, .int 2147483543])) pr (primes.map V.int) := SqL.of upd_same
      have ht3 := sm3 _ _ ht2
      have hc3 := sm3.seq hc12
      have f3 := f2.trans (Fr.same sm3 _)
      generalize (upd H' pr (.lst [V.int 2147483647, .int 2147483629, .int 2147483587, .int 2147483579, .int 2147483563, .int 2147483549, .int 2147483543])) = H3 at *
      obtain ⟨q1, a1, b1, c1⟩ := prime_at (i := s % 7) (Int.emod_nonneg _ (by decide)) (Int.emod_lt_of_pos _ (by decide))
      refine ⟨_, rfl, _, rfl, _, _, rfl, rfl, (by show (0 : Int) < 7; decide), pr, _, _, _, rfl, rfl, hP, a1, ?_⟩
      have e0 : 0 ≤ cell % q1 := Int.emod_nonneg _ (by omega)
      have e1 : cell % q1 < q1 := Int.emod_lt_of_pos _ (by omega)
      refine ⟨_, rfl, _, rfl, _, _, rfl, rfl, (by omega), _, _, rfl, rfl, .inr ⟨by decide, by decide⟩, _, rfl, _, _, rfl, rfl, .inl ⟨by decide, by decide⟩, _, rfl, _, _, rfl, rfl, .inr ⟨by omega, by omega⟩, _, _, rfl, rfl, _, rfl, _, _, rfl, rfl, .inl ⟨by decide, by decide⟩, _, _, rfl, rfl, _, _, rfl, rfl, _, rfl, _, _, rfl, rfl, (by omega), ?_⟩
      dsimp only
      generalize hsd : (cell % q1 * 48271 + 7919 * s * s + 69621 * s + 1) % q1 = sd
      have d0 : 0 ≤ sd := by rw [← hsd]; exact Int.emod_nonneg _ (by omega)
      have d1 : sd < q1 := by rw [← hsd]; exact Int.emod_lt_of_pos _ (by omega)
      obtain ⟨q2, a2, b2, c2'⟩ := prime_at (i := (s + 3) % 7) (Int.emod_nonneg _ (by decide)) (Int.emod_lt_of_pos _ (by decide))
      refine ⟨_, rfl, _, rfl, _, _, rfl, rfl, _, _, rfl, rfl, .inl ⟨by omega, by omega⟩, _, rfl, _, rfl, _, _, rfl, rfl, _, _, rfl, rfl, (by show (0 : Int) < 7; decide), pr, _, _, _, rfl, rfl, hP, a2, _, _, rfl, rfl, (by omega), ?_⟩
      dsimp only
      generalize hse : sd * (sd + 16807) % q2 = se
      have e2 : 0 ≤ se := by rw [← hse]; exact Int.emod_nonneg _ (by omega)
      have e3 : se < q2 := by rw [← hse]; exact Int.emod_lt_of_pos _ (by omega)
      refine ⟨_, rfl, _, rfl, _, _, rfl, rfl, .inl ⟨by omega, by omega⟩, _, rfl, _, _, rfl, rfl, (by omega), _, _, rfl, rfl, ⟨by decide, by decide⟩, ?_⟩
      dsimp only
      generalize se * se % q1 / 64 = fo
      refine ⟨_, rfl, _, _, rfl, rfl, pw6, _, _, rfl, rfl, _, rfl, ?_⟩
      refine ite2 (fun p5 => absurd (of_decide_eq_true p5) (by rw [pw6e]; omega)) (fun p5 => ?_)
      refine ⟨_, rfl, _, rfl, _, _, rfl, rfl, (by omega), ?_⟩
      exact k _ _ ⟨Int.emod_nonneg _ (by omega), Int.emod_lt_of_pos _ (by omega)⟩ ⟨cs, s + 1, l, ht3, f3 _ _ hcl ctn, by omega, by omega, l0, h63⟩ f3
end
end SG
namespace SG
open PySem PySem.Spec PyProof.Rows L2
section
variable {K : PySem.W.Frag} {H H' H1 : Hp} {t c p : Addr} {n m : Nat}
theorem Fr.one {S : List Addr} {o : HO} (f : Fr S H H') (h : H p = some o) (hn : p ∉ S) : H' p = some o := f p o h hn
theorem TapeAt.ne_new (h : TapeAt H t c n) (hp : H p = none) : p ≠ t := by
  obtain ⟨kvs, e⟩ := h.is
  exact fun z => by rw [z, e] at hp; cases hp
theorem TapeAt.ne_lst {xs : List V} (h : TapeAt H t c n) (hp : H p = some (.lst xs)) : p ≠ t := by
  obtain ⟨kvs, e⟩ := h.is
  exact ne_of hp e (by intro z; cases z)
theorem TapeAt.ne_tup {xs : List V} (h : TapeAt H t c n) (hp : H p = some (.tup xs)) : p ≠ t := by
  obtain ⟨kvs, e⟩ := h.is
  exact ne_of hp e (by intro z; cases z)
theorem not_in_one {a b : Addr} (h : a ≠ b) : a ∉ [b] := by simpa using h
theorem sl1000 {n : Nat} (h : n ≤ 1000) : n ≤ sizeLine := Nat.le_of_lt (small1000 h)
theorem TapeAt.ne_newc (h : TapeAt H t c n) (hp : H p = none) : p ≠ c := by
  obtain ⟨cs, s, l, h1, h2, h3, h4, h5, h6⟩ := h
  exact fun z => by rw [z, h2] at hp; cases hp
theorem TapeAt.ne_tupc {xs : List V} (h : TapeAt H t c n) (hp : H p = some (.tup xs)) : p ≠ c := by
  obtain ⟨cs, s, l, h1, h2, h3, h4, h5, h6⟩ := h
  exact ne_of hp h2 (by intro z; cases z)
theorem TapeAt.ne_dctc {xs : List (Key × V)} (h : TapeAt H t c n) (hp : H p = some (.dK xs)) : p ≠ c := by
  obtain ⟨cs, s, l, h1, h2, h3, h4, h5, h6⟩ := h
  exact ne_of hp h2 (by intro z; cases z)
theorem TapeAt.put {o : HO} (h : TapeAt H t c n) (h1 : p ≠ t) (h2 : p ≠ c) : TapeAt (upd H p o) t c n := by
  obtain ⟨cs, s, l, e1, e2, r⟩ := h
  exact ⟨cs, s, l, by rw [upd_ne h1.symm]; exact e1, by rw [upd_ne h2.symm]; exact e2, r⟩
/-- [..][_law_draw(tape, m)], the list new -/
theorem pick_draw {xs : List V} {i : Int} {Q : VK} (hT : TapeAt H t c n) (hn : n ≤ 1000000000) (hm : i = (xs.length : Int)) (hx : 1 ≤ xs.length ∧ xs.length ≤ 1000)
    (k : ∀ v H', v ∈ xs → TapeAt H' t c (n + 1) → Fr [t] H H' → Q v H') : ∀ p, H p = none → spDraw [.ref t, .int i] (upd H p (.lst xs)) (fun y H2 => rIxL K (.ref p) y H2 Q) E0 := by
  intro p hp
  have pt := hT.ne_new hp
  have sm := same_new (o := .lst xs) hp
  have hh : (upd H p (.lst xs)) p = some (.lst xs) := upd_same
  generalize upd H p (.lst xs) = Hx at *
  refine ⟨t, c, i, n, rfl, hT.same sm, ⟨by omega, by omega⟩, hn, fun r H' hr T' F' => ?_⟩
  obtain ⟨v, hv, e⟩ := at_in (xs := xs) hr.1 (by omega)
  exact ⟨p, xs, r, v, rfl, rfl, SqL.of (F' _ _ hh (not_in_one pt)), e, k v H' hv T' ((Fr.same sm _).trans F')⟩
end
end SG
namespace SG
open PySem PySem.Spec PyProof.Rows L2
def spBetween (K : PySem.W.Frag) : Sp := fun vs H Q _ => ∃ (x : V) (d : PyData) (lo hi : Int), vs = [x, .int lo, .int hi] ∧ Dp K H x d ∧ Q (.bl (bet d lo hi)) H
def spCoord (K : PySem.W.Frag) : Sp := fun vs H Q _ => ∃ (x : V) (d : PyData), vs = [x] ∧ Dp K H x d ∧ Q (.bl (bet d (-10000) 10000)) H
def spRow (K : PySem.W.Frag) : Sp := fun vs H Q _ => ∃ (x : V) (d : PyData) (n : Nat), vs = [x, .int n] ∧ Dp K H x d ∧ Q (.bl (rowN n d)) H
def wordsT : List Str := ["down", "move", "up", "lost"]
/-- what a touch is -/
def isT : PyData → Bool
  | .tuple [m, f, w, x, y] => bet m 0 1000000000 && (bet f 0 9 && (inL wordsT w && (bet x (-10000) 10000 && bet y (-10000) 10000)))
  | _ => false
def spTouch (K : PySem.W.Frag) : Sp := fun vs H Q _ => ∃ (x : V) (d : PyData), vs = [x] ∧ Dp K H x d ∧ Q (.bl (isT d)) H
def spTouchN (K : PySem.W.Frag) : Sp := fun vs H Q _ => ∃ (x : V) (d : PyData), vs = [x] ∧ Dp K H x d ∧ ∀ H', Same H H' → Q (.bl (isT d)) H'
theorem dec_nat {a b : Nat} : decide (V.int (a : Int) = V.int (b : Int)) = decide (a = b) := by
  rw [Bool.eq_iff_iff]
  simp
  omega
theorem rowN_five {d : PyData} (h : rowN 5 d = true) : ∃ a b c e f, d = .tuple [a, b, c, e, f] := by
  unfold rowN at h
  split at h
  · rename_i ds
    match ds, h with
    | [a, b, c, e, f], _ => exact ⟨a, b, c, e, f, rfl⟩
    | [], h => simp at h
    | [_], h => simp at h
    | [_, _], h => simp at h
    | [_, _, _], h => simp at h
    | [_, _, _, _], h => simp at h
    | _ :: _ :: _ :: _ :: _ :: _ :: _, h => simp at h
  · cases h
theorem isT_row {d : PyData} (h : rowN 5 d = false) : isT d = false := by
  unfold isT
  split
  · exact absurd h (by simp [rowN])
  · rfl
theorem DpAll.five {K : PySem.W.Frag} {H : Hp} {xs : List V} {a b c d e : PyData} (h : DpAll K H xs [a, b, c, d, e]) : ∃ u v w x y, xs = [u, v, w, x, y] ∧ Dp K H u a ∧ Dp K H v b ∧ Dp K H w c ∧ Dp K H x d ∧ Dp K H y e := by
  cases h with
  | cons h1 t => cases t with
    | cons h2 t => cases t with
      | cons h3 t => cases t with
        | cons h4 t => cases t with
          | cons h5 t => cases t; exact ⟨_, _, _, _, _, rfl, h1, h2, h3, h4, h5⟩
section
variable {P : Program} {w : World} {K : PySem.W.Frag} {mg : Str → Option Value} {base : Heap}
theorem ok_between (D : Df K mg "is_between" sis_between ["thing", "least", "most"]) (T : Txt K mg) : Cl P w K mg base 1 "is_between" (spBetween K) := by
  refine D.ok scis_between (fun vs H Q E h => ?_) (fun f cdv A outer s H vs Q E hr h => ?_)
  · obtain ⟨x, d, lo, hi, rfl, _⟩ := h
    rfl
  obtain ⟨x, d, lo, hi, rfl, hd, k⟩ := h
  refine ⟨_, -- return isinstance(thing, int) and (not isinstance(thing, bool)) and (least <= thing <= most)
    (pss_one (ps_ret (pe_and (pe_callB call_isInt (by rfl) T.m_isinstance (by decide +kernel) (pa_cons (pv 0) (pa_cons (pe_bltn (v := .ty "int") (u := .type "int") (by rfl) T.m_int (by decide +kernel) rfl) pa_nil))) (pe_and (pe_not (pe_callB call_isBool (by rfl) T.m_isinstance (by decide +kernel) (pa_cons (pv 0) (pa_cons (pe_bltn (v := .ty "bool") (u := .type "bool") (by rfl) T.m_bool (by decide +kernel) rfl) pa_nil)))) (pe_one (pe_chain op_le op_le (pv 1) (pv 0) (pv 2))))))), ?_⟩
  refine ⟨_, rfl, _, d, rfl, hd, _, rfl, ite2 (fun p => ?_) fun p => ?_⟩
  · refine ⟨_, rfl, _, d, rfl, hd, _, rfl, _, rfl, ite2 (fun q => ?_) fun q => ?_⟩
    · cases hd with
      | int i =>
        refine ⟨_, rfl, _, rfl, _, _, rfl, rfl, _, rfl, ite2 (fun r => ?_) fun r => ?_⟩
        · refine ⟨_, rfl, _, _, rfl, rfl, ?_⟩
          have e : bet (.int i) lo hi = decide (i ≤ hi) := by show (decide (lo ≤ i) && decide (i ≤ hi)) = _; rw [r]; rfl
          show Q (.bl (decide (i ≤ hi))) H
          rw [← e]; exact k
        · have e : bet (.int i) lo hi = false := by show (decide (lo ≤ i) && decide (i ≤ hi)) = _; rw [Bool.eq_false_iff.mpr r]; rfl
          rw [← e]; exact k
      | bl b => cases q
      | non => cases p
      | str s => cases p
      | lst a b => cases p
      | tup a b => cases p
    · have e : bet d lo hi = false := by cases hd <;> first | rfl | exact absurd rfl q
      rw [← e]; exact k
  · have e : bet d lo hi = false := by cases hd <;> first | rfl | exact absurd rfl p
    rw [← e]; exact k
theorem ok_whole (D : Df K mg "_law_whole" s_law_whole ["_law_thing", "_law_least", "_law_most"]) (T : Txt K mg) : Cl P w K mg base 1 "_law_whole" (spBetween K) := by
  refine D.ok sc_law_whole (fun vs H Q E h => ?_) (fun f cdv A outer s H vs Q E hr h => ?_)
  · obtain ⟨x, d, lo, hi, rfl, _⟩ := h
    rfl
  obtain ⟨x, d, lo, hi, rfl, hd, k⟩ := h
  refine ⟨_, -- return isinstance(_law_thing, int) and (not isinstance(_law_thing, bool)) and (_law_least <= _law_thing <= _law_most)
    (pss_one (ps_ret (pe_and (pe_callB call_isInt (by rfl) T.m_isinstance (by decide +kernel) (pa_cons (pv 0) (pa_cons (pe_bltn (v := .ty "int") (u := .type "int") (by rfl) T.m_int (by decide +kernel) rfl) pa_nil))) (pe_and (pe_not (pe_callB call_isBool (by rfl) T.m_isinstance (by decide +kernel) (pa_cons (pv 0) (pa_cons (pe_bltn (v := .ty "bool") (u := .type "bool") (by rfl) T.m_bool (by decide +kernel) rfl) pa_nil)))) (pe_one (pe_chain op_le op_le (pv 1) (pv 0) (pv 2))))))), ?_⟩
  refine ⟨_, rfl, _, d, rfl, hd, _, rfl, ite2 (fun p => ?_) fun p => ?_⟩
  · refine ⟨_, rfl, _, d, rfl, hd, _, rfl, _, rfl, ite2 (fun q => ?_) fun q => ?_⟩
    · cases hd with
      | int i =>
        refine ⟨_, rfl, _, rfl, _, _, rfl, rfl, _, rfl, ite2 (fun r => ?_) fun r => ?_⟩
        · refine ⟨_, rfl, _, _, rfl, rfl, ?_⟩
          have e : bet (.int i) lo hi = decide (i ≤ hi) := by show (decide (lo ≤ i) && decide (i ≤ hi)) = _; rw [r]; rfl
          show Q (.bl (decide (i ≤ hi))) H
          rw [← e]; exact k
        · have e : bet (.int i) lo hi = false := by show (decide (lo ≤ i) && decide (i ≤ hi)) = _; rw [Bool.eq_false_iff.mpr r]; rfl
          rw [← e]; exact k
      | bl b => cases q
      | non => cases p
      | str s => cases p
      | lst a b => cases p
      | tup a b => cases p
    · have e : bet d lo hi = false := by cases hd <;> first | rfl | exact absurd rfl q
      rw [← e]; exact k
  · have e : bet d lo hi = false := by cases hd <;> first | rfl | exact absurd rfl p
    rw [← e]; exact k
theorem ok_row (D : Df K mg "is_row" sis_row ["thing", "many"]) (T : Txt K mg) : Cl P w K mg base 1 "is_row" (spRow K) := by
  refine D.ok scis_row (fun vs H Q E h => ?_) (fun f cdv A outer s H vs Q E hr h => ?_)
  · obtain ⟨x, d, n, rfl, _⟩ := h
    rfl
  obtain ⟨x, d, n, rfl, hd, k⟩ := h
  refine ⟨_, -- return isinstance(thing, tuple) and len(thing) == many
    (pss_one (ps_ret (pe_and (pe_callB call_isTup (by rfl) T.m_isinstance (by decide +kernel) (pa_cons (pv 0) (pa_cons (pe_bltn (v := .ty "tuple") (u := .type "tuple") (by rfl) T.m_tuple (by decide +kernel) rfl) pa_nil))) (pe_one (pe_cmpR op_eq (pe_callB call_len_seq (by rfl) T.m_len PySem.boot_len (pa_cons (pv 0) pa_nil)) (pv 1) (nomark _)))))), ?_⟩
  refine ⟨_, rfl, _, d, rfl, hd, _, rfl, ite2 (fun p => ?_) fun p => ?_⟩
  · cases hd with
    | @tup a xs ds sq al =>
      refine ⟨_, rfl, _, _, rfl, .inr sq, _, rfl, ?_⟩
      refine ⟨rfl, ?_⟩
      have k' : Q (.bl (decide (ds.length = n))) H := k
      rw [← DpAll.len al, ← dec_nat] at k'
      exact k'
    | bl b => cases p
    | non => cases p
    | str s => cases p
    | lst a b => cases p
    | int i => cases p
  · have e : rowN n d = false := by cases hd <;> first | rfl | exact absurd rfl p
    rw [e] at k; exact k
theorem ok_coord (D : Df K mg "is_coordinate" sis_coordinate ["thing"]) (T : Txt K mg) (cis_between : Cl P w K mg base 1 "is_between" (spBetween K)) : Cl P w K mg base 2 "is_coordinate" (spCoord K) := by
  refine D.ok scis_coordinate (fun vs H Q E h => ?_) (fun f cdv A outer s H vs Q E hr h => ?_)
  · obtain ⟨x, d, rfl, _⟩ := h
    rfl
  obtain ⟨x, d, rfl, hd, k⟩ := h
  obtain ⟨_, mFARTHEST⟩ := T.mFARTHESTx
  refine ⟨_, -- return is_between(thing, -FARTHEST, FARTHEST)
    (pss_one (ps_ret (pe_cl cis_between (hr.mono (by first | decide | omega)) rfl (pa_cons (pv 0) (pa_cons (pe_un un_neg (pe_glob (v := .int 10000) rfl mFARTHEST ⟨_, rfl⟩)) (pa_cons (pe_glob (v := .int 10000) rfl mFARTHEST ⟨_, rfl⟩) pa_nil)))))), ?_⟩
  exact ⟨_, rfl, _, rfl, x, d, _, _, rfl, hd, k⟩
def spMoment (K : PySem.W.Frag) : Sp := fun vs H Q _ => ∃ (x : V) (d : PyData), vs = [x] ∧ Dp K H x d ∧ Q (.bl (bet d 0 1000000000)) H
theorem ok_moment (D : Df K mg "is_moment" sis_moment ["thing"]) (T : Txt K mg) (cis_between : Cl P w K mg base 1 "is_between" (spBetween K)) : Cl P w K mg base 2 "is_moment" (spMoment K) := by
  refine D.ok scis_moment (fun vs H Q E h => ?_) (fun f cdv A outer s H vs Q E hr h => ?_)
  · obtain ⟨x, d, rfl, _⟩ := h
    rfl
  obtain ⟨x, d, rfl, hd, k⟩ := h
  obtain ⟨_, mLAST_MOMENT⟩ := T.mLAST_MOMENTx
  refine ⟨_, -- return is_between(thing, 0, LAST_MOMENT)
    (pss_one (ps_ret (pe_cl cis_between (hr.mono (by first | decide | omega)) rfl (pa_cons (pv 0) (pa_cons pe_int (pa_cons (pe_glob (v := .int 1000000000) rfl mLAST_MOMENT ⟨_, rfl⟩) pa_nil)))))), ?_⟩
  exact ⟨_, rfl, x, d, _, _, rfl, hd, k⟩
theorem ok_touch (D : Df K mg "is_touch" sis_touch ["thing"]) (T : Txt K mg) (cis_row : Cl P w K mg base 1 "is_row" (spRow K)) (cis_between : Cl P w K mg base 1 "is_between" (spBetween K)) (cis_coordinate : Cl P w K mg base 2 "is_coordinate" (spCoord K)) (cis_moment : Cl P w K mg base 2 "is_moment" (spMoment K)) : Cl P w K mg base 3 "is_touch" (spTouch K) := by
  refine D.ok scis_touch (fun vs H Q E h => ?_) (fun f cdv A outer s H vs Q E hr h => ?_)
  · obtain ⟨x, d, rfl, _⟩ := h
    rfl
  obtain ⟨x, d, rfl, hd, k⟩ := h
  obtain ⟨aTOUCH_WORDS, mTOUCH_WORDS, qW⟩ := T.mTOUCH_WORDSx
  obtain ⟨_, mLAST_FINGER⟩ := T.mLAST_FINGERx
  refine ⟨_, -- if not is_row(thing, 5):
    (pss_cons (ps_if (pt_not (pt_val (pe_cl cis_row (hr.mono (by first | decide | omega)) rfl (pa_cons (pv 0) (pa_cons pe_int pa_nil)))))
      (pss_one (ps_ret pe_bl))
      pss_nil)
    (pss_cons (ps_asg (pv 0) (pg_tup rfl (pgs_cons (pg_name (i := 1) scis_touch.nd rfl (Or.inl rfl)) (pgs_cons (pg_name (i := 2) scis_touch.nd rfl (Or.inl rfl)) (pgs_cons (pg_name (i := 3) scis_touch.nd rfl (Or.inl rfl)) (pgs_cons (pg_name (i := 4) scis_touch.nd rfl (Or.inl rfl)) (pgs_cons (pg_name (i := 5) scis_touch.nd rfl (Or.inl rfl)) pgs_nil)))))))
    (pss_cons (ps_if (PW.pt (pw_or (pt_not (pt_val (pe_cl cis_moment (hr.mono (by first | decide | omega)) rfl (pa_cons (pv 1) pa_nil)))) (pw_or1 (pt_not (pt_val (pe_cl cis_between (hr.mono (by first | decide | omega)) rfl (pa_cons (pv 2) (pa_cons pe_int (pa_cons (pe_glob (v := .int 9) rfl mLAST_FINGER ⟨_, rfl⟩) pa_nil)))))))))
      (pss_one (ps_ret pe_bl))
      pss_nil)
    (pss_one (ps_ret (pe_and (pe_cmpR (op_inT (hin_of hr)) (pv 3) (pe_glob (v := .ref aTOUCH_WORDS) rfl mTOUCH_WORDS rfl) (by with_unfolding_all rfl)) (pe_and (pe_cl cis_coordinate (hr.mono (by first | decide | omega)) rfl (pa_cons (pv 4) pa_nil)) (pe_one (pe_cl cis_coordinate (hr.mono (by first | decide | omega)) rfl (pa_cons (pv 5) pa_nil)))))))))), ?_⟩
  refine ⟨_, rfl, x, d, 5, rfl, hd, _, rfl, ite2 (fun p => ?_) fun p => ?_⟩
  · rw [isT_row (by simpa using p)] at k
    exact k
  obtain ⟨a, b, c, e, f', rfl⟩ := rowN_five (by simpa using p)
  obtain ⟨t, xs, rfl, hx, al⟩ := Dp.tupOf hd
  obtain ⟨u1, u2, u3, u4, u5, rfl, h1, h2, h3, h4, h5⟩ := DpAll.five al
  refine ⟨_, rfl, t, _, rfl, hx, rfl, _, _, rfl, _, _, rfl, _, _, rfl, _, _, rfl, _, _, rfl, rfl, ?_⟩
  have k' : Q (.bl (bet a 0 1000000000 && (bet b 0 9 && (inL wordsT c && (bet e (-10000) 10000 && bet f' (-10000) 10000))))) H := k
  have W : Dp K H (.ref aTOUCH_WORDS) (.tuple (wordsT.map PyData.str)) := .tup (qW H) (dp_strs wordsT)
  refine ⟨_, rfl, u1, a, rfl, h1, _, rfl, ite2 (fun p1 => ?_) fun p1 => ?_⟩
  · rw [show bet a 0 1000000000 = false by simpa using p1] at k'
    exact k'
  rw [show bet a 0 1000000000 = true by simpa using p1, Bool.true_and] at k'
  refine ⟨_, rfl, u2, b, _, _, rfl, h2, _, rfl, ite2 (fun p2 => ?_) fun p2 => ?_⟩
  · rw [show bet b 0 9 = false by simpa using p2] at k'
    exact k'
  rw [show bet b 0 9 = true by simpa using p2, Bool.true_and] at k'
  refine ⟨_, rfl, _, _, h3, W, Dp.plain h3, rfl, Nat.zero_le _, _, rfl, ite2 (fun q => ?_) fun q => ?_⟩
  · rw [show inL wordsT c = true by simpa [inL] using q, Bool.true_and] at k'
    refine ⟨_, rfl, u4, e, rfl, h4, _, rfl, ite2 (fun q2 => ?_) fun q2 => ?_⟩
    · rw [show bet e (-10000) 10000 = true from q2, Bool.true_and] at k'
      exact ⟨_, rfl, u5, f', rfl, h5, k'⟩
    · rw [show bet e (-10000) 10000 = false by simpa using q2] at k'
      exact k'
  · rw [show inL wordsT c = false by simpa [inL] using q] at k'
    exact k'
theorem inL_no {ss : List Str} {d : PyData} (h : d.isStr = false) : inL ss d = false := by
  cases e : inL ss d with
  | false => rfl
  | true =>
    obtain ⟨s, _, rfl⟩ := inL_str e
    cases h
theorem at5_0 {a b c d e : V} : atI [a, b, c, d, e] 0 = some a := atI_nat (j := 0) rfl
theorem at5_1 {a b c d e : V} : atI [a, b, c, d, e] 1 = some b := atI_nat (j := 1) rfl
theorem at5_2 {a b c d e : V} : atI [a, b, c, d, e] 2 = some c := atI_nat (j := 2) rfl
theorem at5_3 {a b c d e : V} : atI [a, b, c, d, e] 3 = some d := atI_nat (j := 3) rfl
theorem at5_4 {a b c d e : V} : atI [a, b, c, d, e] 4 = some e := atI_nat (j := 4) rfl
theorem ok_own (D : Df K mg "_law_is_touch" s_law_is_touch ["_law_thing"]) (T : Txt K mg) (c_law_whole : Cl P w K mg base 1 "_law_whole" (spBetween K)) : Cl P w K mg base 2 "_law_is_touch" (spTouchN K) := by
  refine D.ok sc_law_is_touch (fun vs H Q E h => ?_) (fun f cdv A outer s H vs Q E hr h => ?_)
  · obtain ⟨x, d, rfl, _⟩ := h
    rfl
  obtain ⟨x, d, rfl, hd, kk⟩ := h
  have k := kk H (Same.refl _)
  refine ⟨_, -- if not isinstance(_law_thing, tuple) or len(_law_thing) != 5 or (not isinstance(_law_thing[2], str)):
    (pss_cons (ps_if (PW.pt (pw_or (pt_not (pt_val (pe_callB call_isTup (by rfl) T.m_isinstance (by decide +kernel) (pa_cons (pv 0) (pa_cons (pe_bltn (v := .ty "tuple") (u := .type "tuple") (by rfl) T.m_tuple (by decide +kernel) rfl) pa_nil))))) (pw_or (pt_cmpR op_ne (pe_callB call_len_seq (by rfl) T.m_len PySem.boot_len (pa_cons (pv 0) pa_nil)) pe_int (nomark _)) (pw_or1 (pt_not (pt_val (pe_callB call_isStr (by rfl) T.m_isinstance (by decide +kernel) (pa_cons (pe_ix ix_tup (pv 0) pe_int (fun _ _ => rfl)) (pa_cons (pe_bltn (v := .ty "str") (u := .type "str") (by rfl) T.m_str (by decide +kernel) rfl) pa_nil)))))))))
      (pss_one (ps_ret pe_bl))
      pss_nil)
    (pss_cons (ps_if (PW.pt (pw_or (pt_not (pt_val (pe_cl c_law_whole (hr.mono (by first | decide | omega)) rfl (pa_cons (pe_ix ix_tup (pv 0) pe_int (fun _ _ => rfl)) (pa_cons pe_int (pa_cons (pe_op op_powG pe_int pe_int) pa_nil)))))) (pw_or1 (pt_not (pt_val (pe_cl c_law_whole (hr.mono (by first | decide | omega)) rfl (pa_cons (pe_ix ix_tup (pv 0) pe_int (fun _ _ => rfl)) (pa_cons pe_int (pa_cons pe_int pa_nil)))))))))
      (pss_one (ps_ret pe_bl))
      pss_nil)
    (pss_cons (ps_if (pt_cmpR op_notIn_seq (pe_ix ix_tup (pv 0) pe_int (fun _ _ => rfl)) (pe_tup (pa_cons pe_str (pa_cons pe_str (pa_cons pe_str (pa_cons pe_str pa_nil))))) (by with_unfolding_all rfl))
      (pss_one (ps_ret pe_bl))
      pss_nil)
    (pss_one (ps_ret (pe_and (pe_cl c_law_whole (hr.mono (by first | decide | omega)) rfl (pa_cons (pe_ix ix_tup (pv 0) pe_int (fun _ _ => rfl)) (pa_cons (pe_un un_neg pe_int) (pa_cons pe_int pa_nil)))) (pe_one (pe_cl c_law_whole (hr.mono (by first | decide | omega)) rfl (pa_cons (pe_ix ix_tup (pv 0) pe_int (fun _ _ => rfl)) (pa_cons (pe_un un_neg pe_int) (pa_cons pe_int pa_nil))))))))))), ?_⟩
  refine ⟨_, rfl, x, d, rfl, hd, _, rfl, ite2 (fun p => ?_) fun p => ?_⟩
  · rw [isT_row (by cases hd <;> first | rfl | (simp [PyData.isTuple] at p))] at k
    exact k
  obtain ⟨ds, rfl⟩ : ∃ ds, d = .tuple ds := by
    cases hd <;> first | exact ⟨_, rfl⟩ | (simp [PyData.isTuple] at p)
  obtain ⟨t, xs, rfl, hx, al⟩ := Dp.tupOf hd
  refine ⟨_, rfl, _, _, rfl, .inr hx, ?_⟩
  refine ⟨rfl, _, rfl, ite2 (fun p2 => ?_) fun p2 => ?_⟩
  · have e : rowN 5 (.tuple ds) = false := by
      show decide (ds.length = 5) = false
      rw [← dec_nat, ← DpAll.len al]
      simpa using p2
    rw [isT_row e] at k
    exact k
  have e5 : rowN 5 (.tuple ds) = true := by
    show decide (ds.length = 5) = true
    rw [← dec_nat, ← DpAll.len al]
    simpa using p2
  obtain ⟨a, b, c, e, f', eq⟩ := rowN_five e5
  obtain rfl : ds = [a, b, c, e, f'] := by injection eq
  obtain ⟨u1, u2, u3, u4, u5, rfl, h1, h2, h3, h4, h5⟩ := DpAll.five al
  have k' : Q (.bl (bet a 0 1000000000 && (bet b 0 9 && (inL wordsT c && (bet e (-10000) 10000 && bet f' (-10000) 10000))))) H := k
  refine ⟨_, rfl, t, _, 2, _, rfl, rfl, hx, at5_2, _, c, rfl, h3, _, rfl, ite2 (fun p3 => ?_) fun p3 => ?_⟩
  · rw [inL_no (by simpa using p3), Bool.false_and, Bool.and_false, Bool.and_false] at k'
    exact k'
  obtain ⟨z, rfl, rfl⟩ : ∃ z, c = .str z ∧ u3 = .str z := by
    cases h3 <;> first | exact ⟨_, rfl, rfl⟩ | (simp [PyData.isStr] at p3)
  refine ⟨_, rfl, t, _, 0, _, rfl, rfl, hx, at5_0, _, _, rfl, rfl, ⟨by decide, by decide +kernel⟩, u1, a, 0, _, rfl, h1, _, rfl, ite2 (fun p1 => ?_) fun p1 => ?_⟩
  · rw [show bet a 0 1000000000 = false by simpa using p1] at k'
    exact k'
  rw [show bet a 0 1000000000 = true by simpa using p1, Bool.true_and] at k'
  refine ⟨_, rfl, t, _, 1, _, rfl, rfl, hx, at5_1, u2, b, _, _, rfl, h2, _, rfl, ite2 (fun p2 => ?_) fun p2 => ?_⟩
  · rw [show bet b 0 9 = false by simpa using p2] at k'
    exact k'
  rw [show bet b 0 9 = true by simpa using p2, Bool.true_and] at k'
  refine ⟨_, rfl, t, _, 2, _, rfl, rfl, hx, at5_2, (by show 4 ≤ sizeLine; decide), ?_⟩
  (intro q q0; generalize hh_ : upd _ q _ = H1; have hq := upd_is hh_; have s1 := same_is hh_ q0; clear hh_)
  have hx1 := same_sqT s1 hx
  have kk' : Q (.bl (bet a 0 1000000000 && (bet b 0 9 && (inL wordsT (.str z) && (bet e (-10000) 10000 && bet f' (-10000) 10000))))) H1 := kk H1 s1
  rw [show bet a 0 1000000000 = true by simpa using p1, Bool.true_and, show bet b 0 9 = true by simpa using p2, Bool.true_and] at kk'
  clear k k'
  refine ⟨q, wordsT.map V.str, rfl, .inr (SqT.of hq), rfl, rfl, _, rfl, ite2 (fun p4 => ?_) fun p4 => ?_⟩
  · rw [show inL wordsT (.str z) = false by rw [inL_strs, ← inV_strs]; simpa using p4, Bool.false_and] at kk'
    exact kk'
  rw [show inL wordsT (.str z) = true by rw [inL_strs, ← inV_strs]; simpa using p4, Bool.true_and] at kk'
  refine ⟨_, rfl, t, _, 3, _, rfl, rfl, hx1, at5_3, _, rfl, u4, e, _, _, rfl, Dp.same s1 h4, _, rfl, ite2 (fun p5 => ?_) fun p5 => ?_⟩
  · rw [show bet e (-10000) 10000 = true from p5, Bool.true_and] at kk'
    exact ⟨_, rfl, t, _, 4, _, rfl, rfl, hx1, at5_4, _, rfl, u5, f', _, _, rfl, Dp.same s1 h5, kk'⟩
  · rw [show bet e (-10000) 10000 = false by simpa using p5, Bool.false_and] at kk'
    exact kk'
end
end SG
namespace SG
open PySem PySem.Spec PyProof.Rows L2
/-! ### rows of touches -/
structure Tw where
  a : Addr
  m : Int
  f : Int
  w : Str
  x : Int
  y : Int
abbrev sDown : Str := "down"
abbrev sMove : Str := "move"
abbrev sUp : Str := "up"
abbrev sLost : Str := "lost"
def isDn (t : Tw) : Bool := decide (t.w = sDown)
def isEnd (t : Tw) : Bool := decide (t.w = sUp) || decide (t.w = sLost)
def TwW (t : Tw) : Prop := t.w = sDown ∨ t.w = sMove ∨ t.w = sUp ∨ t.w = sLost
theorem dn_end {t : Tw} (h : isDn t = true) : isEnd t = false := by
  have e : t.w = sDown := of_decide_eq_true h
  unfold isEnd
  rw [e]
  decide +kernel
/-- which fingers are down -/
def stepS (S : Int → Bool) (t : Tw) : Int → Bool := fun j => if j = t.f then isDn t || decide (t.w = sMove) else S j
def stAt (ts : List Tw) (k : Nat) : Int → Bool := (ts.take k).foldl stepS (fun _ => false)
def lastAt (ts : List Tw) (k : Nat) : Int := if k = 0 then 0 else ((ts[k - 1]?).map (·.m)).getD 0
def badT (S : Int → Bool) (l : Int) (t : Tw) : Bool := decide (t.m < l) || (isDn t == S t.f)
def bad (ts : List Tw) (k : Nat) : Bool := match ts[k]? with
  | some t => badT (stAt ts k) (lastAt ts k) t
  | none => false
def wrong (ts : List Tw) : Option Nat := (List.range ts.length).find? (bad ts)
theorem stAt_succ {ts : List Tw} {k : Nat} {t : Tw} (h : ts[k]? = some t) : stAt ts (k + 1) = stepS (stAt ts k) t := by
  obtain ⟨hk, e⟩ := List.getElem?_eq_some_iff.mp h
  unfold stAt
  rw [List.take_succ_eq_append_getElem hk, List.foldl_append, e]
  rfl
theorem lastAt_succ {ts : List Tw} {k : Nat} {t : Tw} (h : ts[k]? = some t) : lastAt ts (k + 1) = t.m := by
  unfold lastAt
  rw [if_neg (by omega), Nat.add_sub_cancel, h]
  rfl
theorem bad_at {ts : List Tw} {k : Nat} {t : Tw} (h : ts[k]? = some t) : bad ts k = badT (stAt ts k) (lastAt ts k) t := by
  unfold bad
  rw [h]
theorem find_range {p : Nat → Bool} : ∀ {n k : Nat}, k < n → (∀ j, j < k → p j = false) → p k = true → (List.range n).find? p = some k
  | n, k, h, a, b => by
    have sp : List.range n = List.range k ++ (List.range (n - k)).map (k + ·) := by
      rw [← List.range_add]
      congr 1
      omega
    rw [sp, List.find?_append]
    have none1 : (List.range k).find? p = none := by
      rw [List.find?_eq_none]
      intro x hx
      rw [a x (List.mem_range.mp hx)]
      decide
    obtain ⟨m, hm⟩ : ∃ m, n - k = m + 1 := ⟨n - k - 1, by omega⟩
    rw [none1, hm, List.range_succ_eq_map, List.map_cons, List.find?_cons, Nat.add_zero, b]
    rfl
theorem wrong_some {ts : List Tw} {k : Nat} (h : k < ts.length) (a : ∀ j, j < k → bad ts j = false) (b : bad ts k = true) : wrong ts = some k := find_range h a b
theorem wrong_none {ts : List Tw} (a : ∀ j, j < ts.length → bad ts j = false) : wrong ts = none := by
  unfold wrong
  rw [List.find?_eq_none]
  intro x hx
  rw [a x (List.mem_range.mp hx)]
  decide
theorem stAt_take {ts : List Tw} {n k : Nat} (h : k ≤ n) : stAt (ts.take n) k = stAt ts k := by
  unfold stAt
  rw [List.take_take, Nat.min_eq_left h]
theorem lastAt_take {ts : List Tw} {n k : Nat} (h : k ≤ n) : lastAt (ts.take n) k = lastAt ts k := by
  unfold lastAt
  by_cases z : k = 0
  · rw [if_pos z, if_pos z]
  · rw [if_neg z, if_neg z, List.getElem?_take_of_lt (by omega)]
theorem bad_take {ts : List Tw} {n k : Nat} (h : k < n) : bad (ts.take n) k = bad ts k := by
  unfold bad
  rw [List.getElem?_take_of_lt h, stAt_take (by omega), lastAt_take (by omega)]
/-- the touches ahead of the first wrong one -/
def rightOf (ts : List Tw) : List Tw := match wrong ts with | some k => ts.take k | none => ts
theorem rightOf_ok (ts : List Tw) : ∀ j, j < (rightOf ts).length → bad (rightOf ts) j = false := by
  unfold rightOf
  cases e : wrong ts with
  | some k =>
    intro j hj
    have hj' : j < k := by
      have : (ts.take k).length ≤ k := by rw [List.length_take]; omega
      exact Nat.lt_of_lt_of_le hj this
    show bad (ts.take k) j = false
    rw [bad_take hj']
    unfold wrong at e
    rw [List.find?_range_eq_some] at e
    have := e.2.2 j hj'
    simpa using this
  | none =>
    intro j hj
    have hj' : j < ts.length := hj
    unfold wrong at e
    rw [List.find?_eq_none] at e
    have := e j (List.mem_range.mpr hj')
    simpa using this
/-! ### strokes -/
def upto : List Tw → List Tw
  | [] => []
  | t :: r => if isEnd t then [t] else t :: upto r
theorem upto_all : ∀ {l : List Tw}, l.any isEnd = false → upto l = l
  | [], _ => rfl
  | t :: r, h => by
    rw [List.any_cons, Bool.or_eq_false_iff] at h
    unfold upto
    rw [h.1, upto_all h.2]
    rfl
theorem upto_len : ∀ l : List Tw, (upto l).length ≤ l.length
  | [] => Nat.zero_le _
  | t :: r => by
    unfold upto
    have := upto_len r
    split
    · simp only [List.length_cons, List.length_nil]; omega
    · simp only [List.length_cons]; omega
theorem upto_any : ∀ l : List Tw, (upto l).any isEnd = l.any isEnd
  | [] => rfl
  | t :: r => by
    unfold upto
    cases h : isEnd t with
    | true => simp [h]
    | false => simp [h, upto_any r]
theorem upto_snoc : ∀ (l : List Tw) (t : Tw), upto (l ++ [t]) = if l.any isEnd = true then upto l else upto l ++ [t]
  | [], t => by
    show (if isEnd t then [t] else t :: []) = _
    cases isEnd t <;> rfl
  | h :: r, t => by
    show (if isEnd h then [h] else h :: upto (r ++ [t])) = if (h :: r).any isEnd = true then (if isEnd h then [h] else h :: upto r) else (if isEnd h then [h] else h :: upto r) ++ [t]
    rw [List.any_cons, upto_snoc r t]
    cases isEnd h with
    | true => rfl
    | false =>
      cases r.any isEnd <;> rfl
/-- the first end by its number -/
theorem upto_ends : ∀ (l : List Tw), match (List.range l.length).filter (fun j => (l[j]?).any isEnd) with | [] => upto l = l | j :: _ => upto l = l.take (j + 1)
  | [] => rfl
  | t :: r => by
    have ih := upto_ends r
    rw [List.length_cons, List.range_succ_eq_map, List.filter_cons, List.filter_map]
    cases h : isEnd t with
    | true =>
      rw [show ((t :: r)[0]?).any isEnd = true from h]
      show upto (t :: r) = (t :: r).take 1
      unfold upto
      rw [h]
      rfl
    | false =>
      rw [show ((t :: r)[0]?).any isEnd = false from h]
      have e : ((fun j => ((t :: r)[j]?).any isEnd) ∘ Nat.succ) = fun j => (r[j]?).any isEnd := rfl
      rw [e]
      simp only [Bool.false_eq_true, if_false]
      unfold upto
      rw [h]
      generalize (List.range r.length).filter (fun j => (r[j]?).any isEnd) = fs at *
      cases fs with
      | nil =>
        show t :: upto r = t :: r
        rw [show upto r = r from ih]
      | cons j q =>
        show t :: upto r = (t :: r).take (j + 1 + 1)
        rw [show upto r = r.take (j + 1) from ih]
        rfl
def strokesS : List Tw → List (List Tw)
  | [] => []
  | t :: r => if isDn t = true then (t :: upto (r.filter fun z => decide (z.f = t.f))) :: strokesS r else strokesS r
/-- a stroke of a finger that goes on -/
def opn (c : List Tw) (f : Int) : Bool := match c with
  | [] => false
  | h :: l => decide (f = h.f) && !l.any isEnd
def ext (t : Tw) (c : List Tw) : List Tw := if opn c t.f = true then c ++ [t] else c
theorem ext_cons (t h : Tw) (l : List Tw) : ext t (h :: l) = if (decide (t.f = h.f) && !l.any isEnd) = true then h :: l ++ [t] else h :: l := rfl
theorem strokes_snoc : ∀ (p : List Tw) (t : Tw), strokesS (p ++ [t]) = (strokesS p).map (ext t) ++ (if isDn t = true then [[t]] else [])
  | [], t => by
    show (if isDn t = true then [t :: upto []] else []) = _
    rfl
  | h :: r, t => by
    show (if isDn h = true then (h :: upto ((r ++ [t]).filter fun z => decide (z.f = h.f))) :: strokesS (r ++ [t]) else strokesS (r ++ [t])) = _
    rw [strokes_snoc r t]
    show _ = (if isDn h = true then (h :: upto (r.filter fun z => decide (z.f = h.f))) :: strokesS r else strokesS r).map (ext t) ++ _
    cases hd : isDn h with
    | false => rfl
    | true =>
      simp only [if_true, List.map_cons, List.cons_append]
      congr 1
      rw [List.filter_append, ext_cons, upto_any]
      by_cases e : t.f = h.f
      · rw [List.filter_cons_of_pos (by simpa using e), List.filter_nil, upto_snoc]
        simp only [e, decide_true, Bool.true_and]
        cases ((r.filter fun z => decide (z.f = h.f)).any isEnd) <;> rfl
      · rw [List.filter_cons_of_neg (by simpa using e), List.filter_nil, List.append_nil]
        simp [e]
theorem strokes_hd : ∀ {p : List Tw} {c : List Tw}, c ∈ strokesS p → ∃ h l, c = h :: l
  | t :: r, c, hc => by
    unfold strokesS at hc
    split at hc
    · rcases List.mem_cons.mp hc with rfl | hc
      · exact ⟨_, _, rfl⟩
      · exact strokes_hd hc
    · exact strokes_hd hc
theorem opn_snoc {c : List Tw} {t : Tw} {f : Int} (h : opn c f = true) : opn (c ++ [t]) f = !isEnd t := by
  cases c with
  | nil => cases h
  | cons z l =>
    unfold opn at h ⊢
    rw [Bool.and_eq_true] at h
    rw [List.cons_append]
    show (decide (f = z.f) && !(l ++ [t]).any isEnd) = _
    have h2 : l.any isEnd = false := by simpa using h.2
    rw [h.1, List.any_append, h2]
    simp
theorem opn_f {c : List Tw} {f g : Int} (h : opn c f = true) (h2 : opn c g = true) : f = g := by
  cases c with
  | nil => cases h
  | cons z l =>
    unfold opn at h h2
    rw [Bool.and_eq_true] at h h2
    rw [of_decide_eq_true h.1, of_decide_eq_true h2.1]
theorem opn_other {c : List Tw} {t : Tw} {f g : Int} (h : opn c f = true) (ne : g ≠ f) : opn (c ++ [t]) g = false := by
  cases c with
  | nil => cases h
  | cons z l =>
    unfold opn at h ⊢
    rw [Bool.and_eq_true] at h
    show (decide (g = z.f) && _) = false
    rw [← of_decide_eq_true h.1]
    simp [ne]
end SG
namespace SG
open PySem PySem.Spec PyProof.Rows L2
def TwAt (H : Hp) (t : Tw) : Prop := H t.a = some (.tup [.int t.m, .int t.f, .str t.w, .int t.x, .int t.y])
def twD (t : Tw) : PyData := .tuple [.int t.m, .int t.f, .str t.w, .int t.x, .int t.y]
def TwB (t : Tw) : Prop := (0 ≤ t.m ∧ t.m ≤ 1000000000) ∧ (0 ≤ t.f ∧ t.f ≤ 9) ∧ TwW t ∧ (-10000 ≤ t.x ∧ t.x ≤ 10000) ∧ (-10000 ≤ t.y ∧ t.y ≤ 10000)
def Tws (K : PySem.W.Frag) (H : Hp) (l : Addr) (ts : List Tw) : Prop := SqL K H l (ts.map fun t => V.ref t.a) ∧ (∀ t ∈ ts, TwAt H t ∧ TwB t) ∧ ts.length ≤ 60
theorem TwAt.dp {K : PySem.W.Frag} {H : Hp} {t : Tw} (h : TwAt H t) : Dp K H (.ref t.a) (twD t) := .tup (SqT.of h) (.cons (.int _) (.cons (.int _) (.cons (.str _) (.cons (.int _) (.cons (.int _) .nil)))))
theorem bet_in {i lo hi : Int} (a : lo ≤ i) (b : i ≤ hi) : bet (.int i) lo hi = true := by
  show (decide (lo ≤ i) && decide (i ≤ hi)) = true
  rw [decide_eq_true a, decide_eq_true b]
  rfl
theorem isT_tw {t : Tw} (h : TwB t) : isT (twD t) = true := by
  obtain ⟨⟨a, b⟩, ⟨c, d⟩, e, ⟨f, g⟩, ⟨i, j⟩⟩ := h
  show (bet (.int t.m) 0 1000000000 && (bet (.int t.f) 0 9 && (inL wordsT (.str t.w) && (bet (.int t.x) (-10000) 10000 && bet (.int t.y) (-10000) 10000)))) = true
  rw [bet_in a b, bet_in c d, bet_in f g, bet_in i j]
  have : inL wordsT (.str t.w) = true := by
    refine inL_of ?_
    rcases e with e | e | e | e <;> rw [e] <;> simp [wordsT]
  rw [this]
  rfl
theorem Tws.same {K : PySem.W.Frag} {H H' : Hp} {l : Addr} {ts : List Tw} (h : Tws K H l ts) (s : Same H H') : Tws K H' l ts := ⟨s.seq h.1, fun t ht => ⟨s _ _ (h.2.1 t ht).1, (h.2.1 t ht).2⟩, h.2.2⟩
def wV (o : Option Nat) : V := match o with | some k => .int (k : Int) | none => .non
def wD (o : Option Nat) : PyData := match o with | some k => .int (k : Int) | none => .none
theorem wV_dp {K : PySem.W.Frag} {H : Hp} (o : Option Nat) : Dp K H (wV o) (wD o) := by
  cases o with
  | none => exact .non
  | some k => exact .int _
def spWrong (K : PySem.W.Frag) : Sp := fun vs H Q _ => ∃ (l : Addr) (ts : List Tw), vs = [.ref l] ∧ Tws K H l ts ∧ ∀ H', Same H H' → Q (wV (wrong ts)) H'
theorem dec_bl {a b : Bool} : decide (V.bl a = V.bl b) = (a == b) := by
  cases a <;> cases b <;> rfl
theorem dec_str {a b : Str} : decide (V.str a = V.str b) = decide (a = b) := by
  rw [Bool.eq_iff_iff]
  simp
theorem Same.put_new {H H1 H2 : Hp} {p : Addr} {o : HO} (a : Same H H1) (b : Same H1 H2) (hp : H p = none) : Same H (upd H2 p o) := fun q u e => by
  rw [L2.upd_ne (ne_of_none e hp)]
  exact b _ _ (a _ _ e)
theorem beq_dec (a b : Str) : (a == b) = decide (b = a) := by
  rw [Bool.eq_iff_iff, beq_iff_eq, decide_eq_true_iff]
  exact eq_comm
theorem over_in {z : Str} : inV (.str z) [V.str "up", .str "lost"] = (decide (z = sUp) || decide (z = sLost)) := by
  rw [show [V.str "up", V.str "lost"] = [sUp, sLost].map V.str from rfl, inV_strs]
  show (sUp == z || (sLost == z || false)) = _
  rw [Bool.or_false, beq_dec, beq_dec]
section
variable {P : Program} {w : World} {K : PySem.W.Frag} {mg : Str → Option Value} {base : Heap}
theorem ok_wrong (D : Df K mg "first_wrong" sfirst_wrong ["touches"]) (T : Txt K mg) (cis_touch : Cl P w K mg base 3 "is_touch" (spTouch K)) : Cl P w K mg base 4 "first_wrong" (spWrong K) := by
  refine D.ok scfirst_wrong (fun vs H Q E h => ?_) (fun f cdv A outer s H vs Q E hr h => ?_)
  · obtain ⟨_, _, rfl, _⟩ := h
    rfl
  obtain ⟨l, ts, rfl, ⟨hS, hT, h60⟩, k⟩ := h
  obtain ⟨aOVER_WORDS, mOVER_WORDS, qO⟩ := T.mOVER_WORDSx
  refine ⟨_, -- last = 0
    (pss_cons (ps_set (i := 1) scfirst_wrong.nd rfl (Or.inl rfl) pe_int)
    (pss_cons (ps_set (i := 2) scfirst_wrong.nd rfl (Or.inl rfl) (pe_callTy0 cr_set0 (by rfl) T.m_set (by decide +kernel)))
    (pss_cons (ps_for PassesOwn.never rfl (pi_enum rfl T.m_enumerate (pa_cons (pv 0) pa_nil)) (pg_tup rfl (pgs_cons (pg_name (i := 3) scfirst_wrong.nd rfl (Or.inl rfl)) (pgs_cons (pg_name (i := 4) scfirst_wrong.nd rfl (Or.inl rfl)) pgs_nil)))
      (pss_cons (ps_if (pt_not (pt_val (pe_cl cis_touch (hr.mono (by first | decide | omega)) rfl (pa_cons (pv 4) pa_nil))))
        (pss_one (ps_ret (pv 3)))
        pss_nil)
      (pss_cons (ps_asg (pv 4) (pg_tup rfl (pgs_cons (pg_name (i := 5) scfirst_wrong.nd rfl (Or.inl rfl)) (pgs_cons (pg_name (i := 6) scfirst_wrong.nd rfl (Or.inl rfl)) (pgs_cons (pg_name (i := 7) scfirst_wrong.nd rfl (Or.inl rfl)) (pgs_cons (pg_name (i := 8) scfirst_wrong.nd rfl (Or.inl rfl)) (pgs_cons (pg_name (i := 8) scfirst_wrong.nd rfl (Or.inl rfl)) pgs_nil)))))))
      (pss_cons (ps_if (PW.pt (pw_or (pt_cmpR op_lt (pv 5) (pv 1) (nomark _)) (pw_or1 (pt_cmpR op_eq (pe_cmpR op_eq (pv 7) pe_str (nomark _)) (pe_cmpR or_sin (pv 6) (pv 2) (by with_unfolding_all rfl)) (nomark _)))))
        (pss_one (ps_ret (pv 3)))
        pss_nil)
      (pss_cons (ps_set (i := 1) scfirst_wrong.nd rfl (Or.inl rfl) (pv 5))
      (pss_one (ps_if (pt_cmpR op_eq (pv 7) pe_str (nomark _))
        (pss_one (ps_expr (pe_sadd (pv 2) (pa_cons (pv 6) pa_nil))))
        (pss_one (ps_if (pt_cmpR op_in_seq (pv 7) (pe_glob (v := .ref aOVER_WORDS) rfl mOVER_WORDS rfl) (by with_unfolding_all rfl))
          (pss_one (ps_expr (pe_sdis (pv 2) (pa_cons (pv 6) pa_nil))))
          pss_nil)))))))))
    (pss_one (ps_ret pe_non))))), ?_⟩
  refine ⟨rfl, ?_⟩
  (intro fs fs0; generalize hh_ : upd _ fs _ = H1; have hfs := upd_is hh_; have s1 := same_is hh_ fs0; clear hh_)
  refine ⟨_, rfl, l, _, rfl, s1.seq hS, ?_⟩
  refine for_it (walk_enum (K := K) (a := l) (xs := ts.map fun t => V.ref t.a)) (fun i σ Hy => ∃ (n : Nat) (k3 k4 k5 k6 k7 k8 : Option V), σ = [some (.ref l), some (.int (lastAt ts i)), some (.ref fs), k3, k4, k5, k6, k7, k8] ∧ Hy fs = some (SetO w fs (stAt ts i) n) ∧ n ≤ i ∧ Same H Hy ∧ ∀ j, j < i → bad ts j = false) ?_ (fun i σ Hy _ ⟨_, _, _, _, _, _, _, _, _, _, sy, _⟩ => sy.seq hS) ?_ ?_
  · exact ⟨0, none, none, none, none, none, none, rfl, hfs, Nat.le_refl _, s1, fun j hj => absurd hj (by omega)⟩
  · rintro i x σ Hy Hz hi ⟨n, k3, k4, k5, k6, k7, k8, rfl, hy, hn, sy, nb⟩ ⟨pt, u, v, rfl, hpt, rfl, e1, e2⟩
    cases e1
    have e3 : (ts.map fun t => V.ref t.a)[i]? = some v := e2
    rw [List.getElem?_map] at e3
    obtain ⟨t, ht, rfl⟩ := Option.map_eq_some_iff.mp e3
    obtain ⟨tt, tb⟩ := hT t (List.mem_of_getElem? ht)
    have s2 := same_new (o := .tup [V.int (i : Nat), .ref t.a]) hpt
    have hp2 : (upd Hy pt (.tup [V.int (i : Nat), .ref t.a])) pt = some (.tup [V.int (i : Nat), .ref t.a]) := upd_same
    generalize upd Hy pt (.tup [V.int (i : Nat), .ref t.a]) = H2 at *
    have tt2 : TwAt H2 t := s2 _ _ (sy _ _ tt)
    have hy2 := s2 _ _ hy
    have sy2 := sy.trans s2
    refine ⟨pt, _, rfl, SqT.of hp2, rfl, _, _, rfl, _, _, rfl, rfl, ?_⟩
    refine ⟨_, rfl, _, _, rfl, tt2.dp, _, rfl, ite2 (fun p => absurd p (by rw [isT_tw tb]; decide)) fun _ => ?_⟩
    refine ⟨_, rfl, t.a, _, rfl, SqT.of tt2, rfl, _, _, rfl, _, _, rfl, _, _, rfl, _, _, rfl, _, _, rfl, rfl, ?_⟩
    have hil : i < ts.length := (List.getElem?_eq_some_iff.mp ht).1
    have bt := bad_at ht
    unfold badT isDn at bt
    refine ⟨_, rfl, _, rfl, _, _, rfl, rfl, _, rfl, ite2 (fun p => ?_) fun p => ?_⟩
    · have : bad ts i = true := by rw [bt, show decide (t.m < lastAt ts i) = true from p]; rfl
      have e := wrong_some hil nb this
      refine ⟨_, rfl, ?_⟩
      have k' := k H2 sy2
      rw [e] at k'
      exact k'
    rw [show decide (t.m < lastAt ts i) = false from Bool.eq_false_iff.mpr p, Bool.false_or] at bt
    refine ⟨_, rfl, rfl, _, rfl, _, rfl, t.f, fs, _, n, rfl, rfl, hy2, rfl, _, rfl, ?_⟩
    rw [dec_bl, dec_str]
    refine ite2 (fun p2 => ?_) fun p2 => ?_
    · have e := wrong_some hil nb (bt.trans p2)
      refine ⟨_, rfl, ?_⟩
      have k' := k H2 sy2
      rw [e] at k'
      exact k'
    have nbi : bad ts i = false := bt.trans (Bool.eq_false_iff.mpr p2)
    have nb' : ∀ j, j < i + 1 → bad ts j = false := fun j hj => by
      by_cases z : j = i
      · rw [z]; exact nbi
      · exact nb j (by omega)
    have st := stAt_succ ht
    have la := lastAt_succ ht
    have fsH : H fs = none := fs0
    have ne : ¬ (decide (t.w = sDown) == stAt ts i t.f) = true := p2
    refine ⟨_, rfl, ?_⟩
    refine ⟨_, rfl, rfl, _, rfl, ?_⟩
    rw [dec_str]
    refine ite2 (fun p3 => ?_) fun p3 => ?_
    · have wd : t.w = sDown := of_decide_eq_true p3
      have nf : stAt ts i t.f = false := by
        cases q : stAt ts i t.f with
        | false => rfl
        | true => exact absurd (by rw [q, decide_eq_true wd]; rfl) ne
      refine ⟨_, rfl, ⟨fs, _, _, rfl, hy2⟩, _, rfl, fs, t.f, _, n, rfl, rfl, hy2, (by unfold scanBound; omega), ?_⟩
      have eS : (fun j => stAt ts i j || decide (j = t.f)) = stAt ts (i + 1) := by
        rw [st]
        funext j
        unfold stepS
        by_cases z : j = t.f
        · rw [if_pos z]; simp [z, isDn, wd]
        · rw [if_neg z]; simp [z]
      rw [eS, nf, la]
      exact ⟨n + 1, _, _, _, _, _, _, rfl, upd_same, by omega, Same.put_new sy2 (Same.refl _) fsH, nb'⟩
    · have wn : ¬ t.w = sDown := fun e => p3 (decide_eq_true e)
      have yf : stAt ts i t.f = true := by
        cases q : stAt ts i t.f with
        | true => rfl
        | false => exact absurd (by rw [q, decide_eq_false wn]; rfl) ne
      refine ⟨_, rfl, aOVER_WORDS, _, rfl, .inr (qO H2), rfl, rfl, _, rfl, ?_⟩
      refine ite2 (fun p4 => ?_) fun p4 => ?_
      · replace p4 : (decide (t.w = sUp) || decide (t.w = sLost)) = true := by rw [← over_in]; exact p4
        have nm : ¬ t.w = sMove := fun e => by
          rw [e] at p4
          exact absurd p4 (by decide +kernel)
        refine ⟨_, rfl, ⟨fs, _, _, rfl, hy2⟩, _, rfl, fs, t.f, _, n, rfl, rfl, hy2, ?_⟩
        have eS : (fun j => stAt ts i j && !decide (j = t.f)) = stAt ts (i + 1) := by
          rw [st]
          funext j
          unfold stepS
          by_cases z : j = t.f
          · rw [if_pos z]; simp [z, isDn, wn, nm]
          · rw [if_neg z]; simp [z]
        rw [eS, la]
        exact ⟨_, _, _, _, _, _, _, rfl, upd_same, by split <;> omega, Same.put_new sy2 (Same.refl _) fsH, nb'⟩
      · replace p4 : ¬ (decide (t.w = sUp) || decide (t.w = sLost)) = true := by rw [← over_in]; exact p4
        have wm : t.w = sMove := by
          rcases tb.2.2.1 with e | e | e | e
          · exact absurd e wn
          · exact e
          · rw [e] at p4; exact absurd (by decide +kernel) p4
          · rw [e] at p4; exact absurd (by decide +kernel) p4
        have eS : stAt ts i = stAt ts (i + 1) := by
          rw [st]
          funext j
          unfold stepS
          by_cases z : j = t.f
          · rw [if_pos z, z, yf]; simp [wm]
          · rw [if_neg z]
        rw [eS] at hy2
        rw [la]
        exact ⟨n, _, _, _, _, _, _, rfl, hy2, by omega, sy2, nb'⟩
  · rintro σ Hy ⟨n, k3, k4, k5, k6, k7, k8, rfl, hy, hn, sy, nb⟩
    have k' := k Hy sy
    rw [wrong_none (fun j hj => nb j (by rw [List.length_map]; exact hj))] at k'
    exact k'
end
end SG
namespace SG
open PySem PySem.Spec PyProof.Rows L2
theorem inV_ints (f : Int) (ds : List Int) : inV (.int f) (ds.map V.int) = ds.any (· == f) := by
  unfold inV
  rw [List.any_map]
  rfl
theorem flat_ints : ∀ ds : List Int, (ds.map V.int).all flatV = true
  | [] => rfl
  | _ :: r => by
    rw [List.map_cons, List.all_cons, flat_ints r]
    rfl
theorem dnmv_in {z : Str} : inV (.str z) [V.str "down", .str "move"] = (decide (z = sDown) || decide (z = sMove)) := by
  rw [show [V.str "down", V.str "move"] = [sDown, sMove].map V.str from rfl, inV_strs]
  show (sDown == z || (sMove == z || false)) = _
  rw [Bool.or_false, beq_dec, beq_dec]
theorem or_mk {a b : TT} {σ : L2.St} {H : Hp} {Q : Bool → Hp → Prop} {c d : Bool} (ha : ∀ Q1 : Bool → Hp → Prop, Q1 c H → a σ H Q1) (hb : ∀ Q1 : Bool → Hp → Prop, Q1 d H → b σ H Q1) (q : Q (c || d) H) : tOr a b σ H Q := by
  refine ha _ ?_
  cases c with
  | true => exact q
  | false => exact hb _ q
theorem and_mk {a b : TT} {σ : L2.St} {H : Hp} {Q : Bool → Hp → Prop} {c d : Bool} (ha : ∀ Q1 : Bool → Hp → Prop, Q1 c H → a σ H Q1) (hb : c = true → ∀ Q1 : Bool → Hp → Prop, Q1 d H → b σ H Q1) (q : Q (c && d) H) : tAnd a b σ H Q := by
  refine ha _ ?_
  cases c with
  | true => exact hb rfl _ q
  | false => exact q
theorem seq_if {c : TT} {t u r : TS} {D : Ends} {σ : L2.St} {H : Hp} (h : c σ H fun b H1 => if b = true then t { D with nx := r D } σ H1 else u { D with nx := r D } σ H1) : tSeq (tIfS c t u) r D σ H := h
/-- the fingers that are down, behind a touch -/
def nextD (ds : List Int) (f : Int) (b : Bool) : List Int := ds.filter (fun z => !decide (z = f)) ++ (if b = true then [f] else [])
theorem nextD_any (ds : List Int) (f g : Int) (b : Bool) : (nextD ds f b).any (· == g) = if g = f then b else ds.any (· == g) := by
  unfold nextD
  rw [List.any_append, List.any_filter]
  by_cases e : g = f
  · subst e
    rw [if_pos rfl]
    have : (ds.any fun z => !decide (z = g) && z == g) = false := by
      rw [List.any_eq_false]
      intro z _
      by_cases q : z = g <;> simp [q]
    rw [this]
    cases b <;> simp
  · rw [if_neg e]
    have : (ds.any fun z => !decide (z = f) && z == g) = ds.any (· == g) := by
      congr 1
      funext z
      by_cases q : z = g
      · subst q; simp [e]
      · simp [q]
    rw [this]
    cases b
    · simp
    · have : ¬ f = g := fun z => e z.symm
      simp [this]
theorem rep_map (f : Int) (b : Bool) : (List.replicate (if b = true then (1 : Int) else 0).toNat [V.int f]).flatten = (if b = true then [f] else []).map V.int := by
  cases b <;> rfl
theorem rep_few (f : Int) (b : Bool) : [V.int f].length * (if b = true then (1 : Int) else 0).toNat ≤ sizeLine := by
  cases b with
  | false => exact Nat.zero_le _
  | true => show 1 * 1 ≤ sizeLine; decide
theorem nextD_map (ds : List Int) (f : Int) (b : Bool) : (ds.filter (fun z => !decide (z = f))).map V.int ++ (if b = true then [f] else []).map V.int = (nextD ds f b).map V.int := by
  rw [← List.map_append]
  rfl
theorem nextD_len (ds : List Int) (f : Int) (b : Bool) : (nextD ds f b).length ≤ ds.length + 1 := by
  unfold nextD
  rw [List.length_append]
  have := List.length_filter_le (fun z => !decide (z = f)) ds
  cases b <;> simp <;> omega
section
variable {P : Program} {w : World} {K : PySem.W.Frag} {mg : Str → Option Value} {base : Heap}
theorem ok_due (D : Df K mg "_law_due" s_law_due ["_law_touches"]) (T : Txt K mg) : Cl P w K mg base 1 "_law_due" (spWrong K) := by
  refine D.ok sc_law_due (fun vs H Q E h => ?_) (fun f cdv A outer s H vs Q E hr h => ?_)
  · obtain ⟨_, _, rfl, _⟩ := h
    rfl
  obtain ⟨l, ts, rfl, ⟨hS, hT, h60⟩, k⟩ := h
  refine ⟨_, -- _law_down = []
    (pss_cons (ps_set (i := 1) sc_law_due.nd rfl (Or.inl rfl) (pe_lst pa_nil))
    (pss_cons (ps_for PassesOwn.never rfl (pi_range1 rfl T.m_range (pa_cons (pe_callB call_len_seq (by rfl) T.m_len PySem.boot_len (pa_cons (pv 0) pa_nil)) pa_nil)) (pg_name (i := 2) sc_law_due.nd rfl (Or.inl rfl))
      (pss_cons (ps_asg (pe_ix ix_list (pv 0) (pv 2) (fun _ _ => rfl)) (pg_tup rfl (pgs_cons (pg_name (i := 3) sc_law_due.nd rfl (Or.inl rfl)) (pgs_cons (pg_name (i := 4) sc_law_due.nd rfl (Or.inr rfl)) (pgs_cons (pg_name (i := 5) sc_law_due.nd rfl (Or.inl rfl)) (pgs_cons (pg_name (i := 6) sc_law_due.nd rfl (Or.inl rfl)) (pgs_cons (pg_name (i := 7) sc_law_due.nd rfl (Or.inl rfl)) pgs_nil)))))))
      (pss_cons (ps_if (PW.pt (pw_or (PW.pt (pw_and (pt_cmpR op_gt (pv 2) pe_int (nomark _)) (pw_and1 (pt_cmpR op_lt (pv 3) (pe_ix ix_tup (pe_ix ix_list (pv 0) (pe_op op_sub (pv 2) pe_int) (fun _ _ => rfl)) pe_int (fun _ _ => rfl)) (nomark _))))) (pw_or1 (pt_cmpR op_eq (pe_cmpR op_eq (pv 5) pe_str (nomark _)) (pe_cmpR op_in_seq (pv 4) (pv 1) (by with_unfolding_all rfl)) (nomark _)))))
        (pss_one (ps_ret (pv 2)))
        pss_nil)
      (pss_one (ps_set (i := 1) sc_law_due.nd rfl (Or.inl rfl) (pe_op op_cat (pe_lc (own := [("_law_one", 8)]) rfl sc_law_due.nd (pi_list (pv 1)) (blkOk_by (N := N_law_due) (sc := defScope s_law_due) (by decide +kernel)) (fun _ _ _ _ _ => (pg_name (i := 8) sc_law_due.nd rfl (Or.inl rfl))) (fun _ _ _ _ _ => pts_one (pt_cmpR op_ne (pv 8) (pv 4) (nomark _))) (fun _ _ _ _ _ => (pv 8))) (pe_op op_rep (pe_lst (pa_cons (pv 4) pa_nil)) (pe_callTy call_int1 rfl T.m_int (by decide +kernel) (pa_cons (pe_cmpR op_in_seq (pv 5) (pe_tup (pa_cons pe_str (pa_cons pe_str pa_nil))) (by with_unfolding_all rfl)) pa_nil)))))))))
    (pss_one (ps_ret pe_non)))), ?_⟩
  refine ⟨(by show 0 ≤ sizeLine; decide), ?_⟩
  (intro dl dl0; generalize hh_ : upd _ dl _ = H1; have hdl := upd_is hh_; have s1 := same_is hh_ dl0; clear hh_)
  have lm : (ts.map fun t => V.ref t.a).length = ts.length := List.length_map _
  refine ⟨_, rfl, _, _, rfl, .inl (s1.seq hS), ?_⟩
  rw [lm]
  refine ⟨ts.length, rfl, (by omega), (by omega), for_range (n := ((ts.length : Nat) : Int).toNat) (fun i σ Hy => ∃ (dl : Addr) (ds : List Int) (k2 k3 k4 k5 k6 k7 k8 : Option V), σ = [some (.ref l), some (.ref dl), k2, k3, k4, k5, k6, k7, k8] ∧ Hy dl = some (.lst (ds.map V.int)) ∧ ds.length ≤ i ∧ (∀ g, ds.any (· == g) = stAt ts i g) ∧ Same H Hy ∧ ∀ j, j < i → bad ts j = false) ?_ ?_ ?_⟩
  · exact ⟨dl, [], none, none, none, none, none, none, none, rfl, hdl, Nat.le_refl _, fun g => rfl, s1, fun j hj => absurd hj (by omega)⟩
  · rintro i σ Hy hi ⟨dl, ds, k2, k3, k4, k5, k6, k7, k8, rfl, hd, hn, hm, sy, nb⟩
    have hil : i < ts.length := by omega
    obtain ⟨t, ht⟩ : ∃ t, ts[i]? = some t := ⟨_, List.getElem?_eq_getElem hil⟩
    obtain ⟨tt, tb⟩ := hT t (List.mem_of_getElem? ht)
    have tt2 : TwAt Hy t := sy _ _ tt
    have at_i : ∀ {j : Nat} {u : Tw}, ts[j]? = some u → atI (ts.map fun t => V.ref t.a) (j : Int) = some (.ref u.a) := fun {j u} e => by
      refine atI_nat ?_
      rw [List.getElem?_map, e]
      rfl
    have bt := bad_at ht
    unfold badT isDn at bt
    have z0 : (0 : Int) + (i : Int) = ((i : Nat) : Int) := by omega
    rw [z0]
    refine ⟨_, rfl, _, rfl, l, _, _, _, rfl, rfl, sy.seq hS, at_i ht, t.a, _, rfl, SqT.of tt2, rfl, _, _, rfl, _, _, rfl, _, _, rfl, _, _, rfl, _, _, rfl, rfl, ?_⟩
    have mv : decide (t.m < lastAt ts i) = (decide ((0 : Int) < (i : Int)) && decide (t.m < lastAt ts i)) := by
      by_cases z : i = 0
      · subst z
        rw [decide_eq_false (by show ¬ t.m < 0; have := tb.1.1; omega)]
        rfl
      · rw [decide_eq_true (by omega : (0 : Int) < (i : Int)), Bool.true_and]
    dsimp only
    refine seq_if ?_
    refine or_mk (c := decide ((0 : Int) < (i : Int)) && decide (t.m < lastAt ts i)) (d := decide (t.w = sDown) == stAt ts i t.f) ?_ ?_ ?_
    · intro Q1 q1
      refine and_mk (c := decide ((0 : Int) < (i : Int))) (d := decide (t.m < lastAt ts i)) (fun Q2 q2 => ?_) (fun hc Q2 q2 => ?_) q1
      · exact ⟨_, rfl, _, _, rfl, rfl, _, rfl, q2⟩
      · have i0 : 0 < i := by have := of_decide_eq_true hc; omega
        obtain ⟨u, hu⟩ : ∃ u, ts[i - 1]? = some u := ⟨_, List.getElem?_eq_getElem (by omega)⟩
        have la : lastAt ts i = u.m := by
          unfold lastAt
          rw [if_neg (by omega), hu]
          rfl
        rw [la] at q2
        have ut : TwAt Hy u := sy _ _ (hT u (List.mem_of_getElem? hu)).1
        refine ⟨_, rfl, _, rfl, _, rfl, _, _, rfl, rfl, l, _, _, _, rfl, rfl, sy.seq hS, (by show atI _ ((i : Int) - 1) = _; rw [show (i : Int) - 1 = ((i - 1 : Nat) : Int) by omega]; exact at_i hu), u.a, _, 0, _, rfl, rfl, SqT.of ut, at5_0, _, _, rfl, rfl, _, rfl, q2⟩
    · intro Q1 q1
      refine ⟨_, rfl, rfl, _, rfl, _, rfl, dl, _, rfl, .inl (SqL.of hd), rfl, flat_ints ds, rfl, _, rfl, ?_⟩
      rw [dec_bl, dec_str]
      show Q1 (decide (t.w = sDown) == inV (.int t.f) (ds.map V.int)) Hy
      rw [inV_ints, hm]
      exact q1
    rw [← mv, ← bt]
    refine ite2 (fun p => ?_) fun p => ?_
    · have e := wrong_some hil nb p
      refine ⟨_, rfl, ?_⟩
      have k' := k Hy sy
      rw [e] at k'
      exact k'
    have nbi : bad ts i = false := Bool.eq_false_iff.mpr p
    have nb' : ∀ j, j < i + 1 → bad ts j = false := fun j hj => by
      by_cases z : j = i
      · rw [z]; exact nbi
      · exact nb j (by omega)
    have st := stAt_succ ht
    refine ⟨_, rfl, dl, rfl, ⟨_, SqL.of hd⟩, ?_⟩
    intro q q0
    refine lc_list (K := K) (a := dl) (xs := ds.map V.int) (fun i Hz => Hz q = some (.lst (((ds.take i).filter fun z => !decide (z = t.f)).map V.int)) ∧ Same Hy Hz) ⟨upd_same, same_new q0⟩ (fun i Hz _ ⟨_, sz1⟩ => SqL.of (sz1 _ _ hd)) ?_ ?_
    · rintro j v Hz hj ⟨z1, sz1⟩
      rw [List.getElem?_map] at hj
      obtain ⟨z, hz, rfl⟩ := Option.map_eq_some_iff.mp hj
      obtain ⟨hjl, ejl⟩ := List.getElem?_eq_some_iff.mp hz
      have e1 : (ds.take (j + 1)).filter (fun z => !decide (z = t.f)) = (ds.take j).filter (fun z => !decide (z = t.f)) ++ (if z = t.f then [] else [z]) := by
        rw [List.take_succ_eq_append_getElem hjl, ejl, List.filter_append]
        by_cases w : z = t.f
        · rw [if_pos w, List.filter_cons_of_neg (by simpa using w), List.filter_nil]
        · rw [if_neg w, List.filter_cons_of_pos (by simpa using w), List.filter_nil]
      have few : (((ds.take j).filter (fun z => !decide (z = t.f))).map V.int).length ≤ 100 := by
        rw [List.length_map]
        refine Nat.le_trans (List.length_filter_le _ _) ?_
        rw [List.length_take]
        omega
      refine ⟨rfl, ?_⟩
      refine ⟨_, rfl, _, rfl, rfl, _, rfl, ?_⟩
      rw [e1]
      refine ite2 (fun p2 => ?_) fun p2 => ?_
      · have ne : ¬ z = t.f := fun e => by simp [e] at p2
        rw [if_neg ne]
        refine ⟨_, rfl, _, z1, sl1000 (by omega), ?_, fun p o e => by rw [upd_ne (ne_of_none e q0)]; exact sz1 _ _ e⟩
        rw [upd_same, List.map_append]
        rfl
      · have ne : z = t.f := Classical.byContradiction fun e => p2 (by simp [e])
        rw [if_pos ne, List.append_nil]
        exact ⟨z1, sz1⟩
    rintro H2 ⟨hq, s2⟩
    rw [List.take_of_length_le (by rw [List.length_map]; exact Nat.le_refl _)] at hq
    refine ⟨_, rfl, (by show 1 ≤ sizeLine; decide), ?_⟩
    (intro q2 q20; generalize hh_ : upd _ q2 _ = H3; have hq2 := upd_is hh_; have s3 := same_is hh_ q20; clear hh_)
    refine ⟨_, rfl, (by show 2 ≤ sizeLine; decide), ?_⟩
    (intro q3 q30; generalize hh_ : upd _ q3 _ = H4; have hq3 := upd_is hh_; have s4 := same_is hh_ q30; clear hh_)
    refine ⟨q3, _, rfl, .inr (SqT.of hq3), rfl, rfl, .inr ⟨_, rfl, ?_⟩⟩
    show rRep _ (.int (if inV (.str t.w) [V.str "down", .str "move"] = true then 1 else 0)) H4 _
    rw [dnmv_in]
    refine ⟨q2, _, _, rfl, rfl, s4 _ _ hq2, by split <;> decide, by split <;> decide, rep_few _ _, ?_⟩
    rw [rep_map]
    (intro q4 q40; generalize hh_ : upd _ q4 _ = H5; have hq4 := upd_is hh_; have s5 := same_is hh_ q40; clear hh_)
    have hq5 := s5 _ _ (s4 _ _ (s3 _ _ hq))
    have lq := nextD_len ds t.f (decide (t.w = sDown) || decide (t.w = sMove))
    have lm2 := congrArg List.length (nextD_map ds t.f (decide (t.w = sDown) || decide (t.w = sMove)))
    rw [List.length_append, List.length_map (as := nextD _ _ _)] at lm2
    refine ⟨q, q4, _, _, rfl, rfl, hq5, hq4, Nat.le_trans (Nat.le_of_eq lm2) (sl1000 (by omega)), ?_⟩
    rw [nextD_map]
    (intro q6 q60; generalize hh_ : upd _ q6 _ = H6; have hq6 := upd_is hh_; have s6 := same_is hh_ q60; clear hh_)
    refine ⟨q6, nextD ds t.f (decide (t.w = sDown) || decide (t.w = sMove)), _, _, _, _, _, _, _, rfl, hq6, by omega, fun g => ?_, sy.trans (s2.trans (s3.trans (s4.trans (s5.trans s6)))), nb'⟩
    rw [nextD_any, st, hm]
    rfl
  · rintro σ Hy ⟨dl, ds, k2, k3, k4, k5, k6, k7, k8, rfl, hd, hn, hm, sy, nb⟩
    have k' := k Hy sy
    rw [wrong_none (fun j hj => nb j (by omega))] at k'
    exact k'
end
end SG
namespace SG
open PySem PySem.Spec PyProof.Rows L2
theorem valV_drop (k j : Key) : ∀ kvs : List (Key × V), valV (dropK kvs k) j = if j = k then none else valV kvs j
  | [] => by
    show none = _
    split <;> rfl
  | p :: r => by
    have ih := valV_drop k j r
    unfold dropK at ih ⊢
    rw [List.filter_cons]
    by_cases e : p.1 = k
    · rw [if_neg (by simp [e]), ih]
      by_cases q : j = k
      · rw [if_pos q, if_pos q]
      · rw [if_neg q, if_neg q, valV_neg (fun z => q (z.symm.trans e))]
    · rw [if_pos (by simp [e])]
      by_cases q : p.1 = j
      · rw [valV_pos q, valV_pos q, if_neg (fun z => e (q.trans z))]
      · rw [valV_neg q, valV_neg q, ih]
structure Go (zs : List (Addr × List Tw)) (kvs : List (Key × V)) (S : Int → Bool) : Prop where
  nd : (zs.map Prod.fst).Nodup
  a : ∀ f v, valV kvs (Sum.inl f) = some v → ∃ z ∈ zs, v = .ref z.1 ∧ opn z.2 f = true
  b : ∀ z ∈ zs, ∀ f, opn z.2 f = true → valV kvs (Sum.inl f) = some (.ref z.1)
  c : ∀ f, (valV kvs (Sum.inl f)).isSome = S f
theorem nd_eq {zs : List (Addr × List Tw)} (h : (zs.map Prod.fst).Nodup) : ∀ {x y : Addr × List Tw}, x ∈ zs → y ∈ zs → x.1 = y.1 → x = y := by
  induction zs with
  | nil => intro x y hx; cases hx
  | cons z r ih =>
    intro x y hx hy e
    rw [List.map_cons, List.nodup_cons] at h
    rcases List.mem_cons.mp hx with h1 | h1
    · rcases List.mem_cons.mp hy with h2 | h2
      · rw [h1, h2]
      · exact absurd (List.mem_map.mpr ⟨y, h2, by rw [← e, h1]⟩) h.1
    · rcases List.mem_cons.mp hy with h2 | h2
      · exact absurd (List.mem_map.mpr ⟨x, h1, by rw [e, h2]⟩) h.1
      · exact ih h.2 h1 h2 e
theorem inl_eq {f g : Int} : ((Sum.inl f : Key) = Sum.inl g) ↔ f = g := ⟨fun h => Sum.inl.inj h, fun h => by rw [h]⟩
theorem opn_one {t : Tw} {f : Int} : opn [t] f = decide (f = t.f) := by
  show (decide (f = t.f) && !([] : List Tw).any isEnd) = _
  simp
theorem Go.down {zs : List (Addr × List Tw)} {kvs : List (Key × V)} {S : Int → Bool} {t : Tw} {n : Addr} (g : Go zs kvs S) (hd : isDn t = true) (hS : S t.f = false) (hn : n ∉ zs.map Prod.fst) :
    Go (zs ++ [(n, [t])]) (putK kvs (Sum.inl t.f) (.ref n)) (stepS S t) ∧ ∀ z ∈ zs, ext t z.2 = z.2 := by
  have none1 : valV kvs (Sum.inl t.f) = none := by
    have := g.c t.f
    rw [hS] at this
    cases e : valV kvs (Sum.inl t.f) with
    | none => rfl
    | some v => rw [e] at this; cases this
  have no : ∀ z ∈ zs, opn z.2 t.f = false := fun z hz => by
    cases e : opn z.2 t.f with
    | false => rfl
    | true => have := g.b z hz _ e; rw [none1] at this; cases this
  refine ⟨⟨?_, ?_, ?_, ?_⟩, fun z hz => by unfold ext; rw [no z hz]; rfl⟩
  · rw [List.map_append]
    refine List.nodup_append.mpr ⟨g.nd, by simp, ?_⟩
    intro x hx y hy e
    rw [List.map_cons, List.map_nil, List.mem_singleton] at hy
    rw [e, hy] at hx
    exact hn hx
  · intro f v hv
    rw [valV_put] at hv
    by_cases e : f = t.f
    · rw [if_pos (inl_eq.mpr e)] at hv
      cases hv
      exact ⟨(n, [t]), by simp, rfl, by show opn [t] f = true; rw [opn_one, e]; simp⟩
    · rw [if_neg (fun z => e (inl_eq.mp z))] at hv
      obtain ⟨z, hz, h1, h2⟩ := g.a f v hv
      exact ⟨z, List.mem_append_left _ hz, h1, h2⟩
  · intro z hz f hf
    rw [valV_put]
    rcases List.mem_append.mp hz with hz | hz
    · have ne : f ≠ t.f := fun e => by rw [e, no z hz] at hf; cases hf
      rw [if_neg (fun q => ne (inl_eq.mp q))]
      exact g.b z hz f hf
    · rw [List.mem_singleton.mp hz] at hf ⊢
      have hf' : opn [t] f = true := hf
      rw [opn_one] at hf'
      rw [if_pos (inl_eq.mpr (of_decide_eq_true hf'))]
  · intro f
    rw [valV_put]
    unfold stepS
    by_cases e : f = t.f
    · rw [if_pos (inl_eq.mpr e), if_pos e, hd]; rfl
    · rw [if_neg (fun z => e (inl_eq.mp z)), if_neg e]
      exact g.c f
theorem Go.more {zs : List (Addr × List Tw)} {kvs : List (Key × V)} {S : Int → Bool} {t : Tw} (g : Go zs kvs S) (hd : isDn t = false) (hS : S t.f = true) (hw : TwW t) :
    ∃ z0 ∈ zs, valV kvs (Sum.inl t.f) = some (.ref z0.1) ∧ (∀ z ∈ zs, z.1 ≠ z0.1 → ext t z.2 = z.2) ∧ ext t z0.2 = z0.2 ++ [t] ∧
      Go (zs.map fun z => (z.1, ext t z.2)) (if isEnd t = true then dropK kvs (Sum.inl t.f) else kvs) (stepS S t) := by
  obtain ⟨v, hv⟩ : ∃ v, valV kvs (Sum.inl t.f) = some v := by
    have := g.c t.f
    rw [hS] at this
    exact Option.isSome_iff_exists.mp this
  obtain ⟨z0, hz0, rfl, ho⟩ := g.a _ _ hv
  have only : ∀ z ∈ zs, opn z.2 t.f = true → z = z0 := fun z hz h => by
    have := g.b z hz _ h
    rw [hv] at this
    have e : z0.1 = z.1 := by injection this with this; injection this
    exact nd_eq g.nd hz hz0 e.symm
  have others : ∀ z ∈ zs, z.1 ≠ z0.1 → ext t z.2 = z.2 := fun z hz ne => by
    unfold ext
    rw [if_neg (fun h => ne (by rw [only z hz h]))]
  have e0 : ext t z0.2 = z0.2 ++ [t] := by
    unfold ext
    rw [if_pos ho]
  have mv : isEnd t = false → t.w = sMove := fun h => by
    rcases hw with e | e | e | e
    · rw [show isDn t = decide (t.w = sDown) from rfl, e] at hd; exact absurd hd (by decide +kernel)
    · exact e
    · unfold isEnd at h; rw [e] at h; exact absurd h (by decide +kernel)
    · unfold isEnd at h; rw [e] at h; exact absurd h (by decide +kernel)
  have nm : isEnd t = true → ¬ t.w = sMove := fun h e => by
    unfold isEnd at h; rw [e] at h; exact absurd h (by decide +kernel)
  refine ⟨z0, hz0, hv, others, e0, ⟨?_, ?_, ?_, ?_⟩⟩
  · rw [List.map_map]
    exact g.nd
  · intro f v hv'
    have key : valV kvs (Sum.inl f) = some v ∧ (f = t.f → isEnd t = false) := by
      cases he : isEnd t with
      | true =>
        rw [he, if_pos rfl, valV_drop] at hv'
        by_cases e : f = t.f
        · rw [if_pos (inl_eq.mpr e)] at hv'; cases hv'
        · rw [if_neg (fun z => e (inl_eq.mp z))] at hv'
          exact ⟨hv', fun q => absurd q e⟩
      | false =>
        rw [he] at hv'
        exact ⟨hv', fun _ => rfl⟩
    obtain ⟨z, hz, h1, h2⟩ := g.a f v key.1
    refine ⟨(z.1, ext t z.2), List.mem_map.mpr ⟨z, hz, rfl⟩, h1, ?_⟩
    show opn (ext t z.2) f = true
    by_cases q : z.1 = z0.1
    · have := nd_eq g.nd hz hz0 q
      rw [this] at h2 ⊢
      have ef := opn_f h2 ho
      rw [e0, ef, opn_snoc ho, key.2 ef]
      rfl
    · rw [others z hz q]
      exact h2
  · intro z' hz' f hf
    obtain ⟨z, hz, rfl⟩ := List.mem_map.mp hz'
    have hf' : opn (ext t z.2) f = true := hf
    show valV (if isEnd t = true then dropK kvs (Sum.inl t.f) else kvs) (Sum.inl f) = some (V.ref z.1)
    by_cases q : z.1 = z0.1
    · have zz := nd_eq g.nd hz hz0 q
      rw [zz, e0] at hf'
      have ef : f = t.f := Classical.byContradiction fun ne => by rw [opn_other ho ne] at hf'; cases hf'
      rw [ef, opn_snoc ho] at hf'
      have ne : isEnd t = false := by simpa using hf'
      rw [ne, zz, ef]
      exact hv
    · rw [others z hz q] at hf'
      have r := g.b z hz f hf'
      have nf : f ≠ t.f := fun e => q (by rw [only z hz (e ▸ hf')])
      split
      · rw [valV_drop, if_neg (fun y => nf (inl_eq.mp y))]
        exact r
      · exact r
  · intro f
    unfold stepS
    rw [hd, Bool.false_or]
    by_cases e : f = t.f
    · rw [if_pos e]
      cases he : isEnd t with
      | true => rw [if_pos rfl, valV_drop, if_pos (inl_eq.mpr e), decide_eq_false (nm he)]; rfl
      | false => rw [decide_eq_true (mv he), e]; show (valV kvs _).isSome = true; rw [hv]; rfl
    · rw [if_neg e, ← g.c f]
      split
      · rw [valV_drop, if_neg (fun y => e (inl_eq.mp y))]
      · rfl
end SG
namespace SG
open PySem PySem.Spec PyProof.Rows L2
/-- told strokes -/
def StrAt (H : Hp) (zs : List (Addr × List Tw)) : Prop := ∀ z ∈ zs, H z.1 = some (.lst (z.2.map fun t => V.ref t.a))
def spStrokes (K : PySem.W.Frag) : Sp := fun vs H Q _ => ∃ (l : Addr) (ts : List Tw), vs = [.ref l] ∧ Tws K H l ts ∧ (∀ j, j < ts.length → bad ts j = false) ∧
  ∀ (p : Addr) (zs : List (Addr × List Tw)) (H' : Hp), Same H H' → H' p = some (.lst (zs.map fun z => V.ref z.1)) → StrAt H' zs → zs.map Prod.snd = strokesS ts → Q (.ref p) H'
theorem strokes_len : ∀ p : List Tw, (strokesS p).length ≤ p.length
  | [] => Nat.zero_le _
  | t :: r => by
    unfold strokesS
    have := strokes_len r
    split
    · simp only [List.length_cons]; omega
    · simp only [List.length_cons]; omega
theorem stroke_len : ∀ {p : List Tw} {c : List Tw}, c ∈ strokesS p → c.length ≤ p.length
  | t :: r, c, hc => by
    unfold strokesS at hc
    split at hc
    · rcases List.mem_cons.mp hc with rfl | hc
      · have h1 : (upto (r.filter fun z => decide (z.f = t.f))).length ≤ (r.filter fun z => decide (z.f = t.f)).length := upto_len _
        have h2 := List.length_filter_le (fun z => decide (z.f = t.f)) r
        simp only [List.length_cons]
        omega
      · have := stroke_len hc
        simp only [List.length_cons]; omega
    · have := stroke_len hc
      simp only [List.length_cons]; omega
section
variable {P : Program} {w : World} {K : PySem.W.Frag} {mg : Str → Option Value} {base : Heap}
theorem ok_strokes (D : Df K mg "strokes_of" sstrokes_of ["touches"]) (T : Txt K mg) : Cl P w K mg base 1 "strokes_of" (spStrokes K) := by
  refine D.ok scstrokes_of (fun vs H Q E h => ?_) (fun f cdv A outer s H vs Q E hr h => ?_)
  · obtain ⟨_, _, rfl, _⟩ := h
    rfl
  obtain ⟨l, ts, rfl, ⟨hS, hT, h60⟩, ok, k⟩ := h
  have hu := hu_of hr
  obtain ⟨aOVER_WORDS, mOVER_WORDS, qO⟩ := T.mOVER_WORDSx
  refine ⟨_, -- strokes = []
    (pss_cons (ps_set (i := 1) scstrokes_of.nd rfl (Or.inl rfl) (pe_lst pa_nil))
    (pss_cons (ps_set (i := 2) scstrokes_of.nd rfl (Or.inl rfl) pe_dnewK)
    (pss_cons (ps_for PassesOwn.never rfl (pi_list (pv 0)) (pg_name (i := 3) scstrokes_of.nd rfl (Or.inl rfl))
      (pss_cons (ps_asg (pv 3) (pg_tup rfl (pgs_cons (pg_name (i := 4) scstrokes_of.nd rfl (Or.inl rfl)) (pgs_cons (pg_name (i := 5) scstrokes_of.nd rfl (Or.inl rfl)) (pgs_cons (pg_name (i := 6) scstrokes_of.nd rfl (Or.inl rfl)) (pgs_cons (pg_name (i := 4) scstrokes_of.nd rfl (Or.inl rfl)) (pgs_cons (pg_name (i := 4) scstrokes_of.nd rfl (Or.inl rfl)) pgs_nil)))))))
      (pss_cons (ps_if (pt_cmpR op_eq (pv 6) pe_str (nomark _))
        (pss_cons (ps_dput hu (pv 2) (pv 5) (pe_lst pa_nil) rfl)
        (pss_one (ps_expr (pe_bm PySem.F.plainAttrs_list PySem.F.slot_list_append PySem.F.type_list_append mt_append (pv 1) (pa_cons (pe_dget hu (pv 2) (pv 5) (fun _ _ => rfl)) pa_nil)))))
        pss_nil)
      (pss_cons (ps_if (pt_cmp (pc_din hu (pv 5) (pv 2)))
        (pss_one (ps_expr (pe_bm PySem.F.plainAttrs_list PySem.F.slot_list_append PySem.F.type_list_append mt_append (pe_dget hu (pv 2) (pv 5) (fun _ _ => rfl)) (pa_cons (pv 3) pa_nil))))
        pss_nil)
      (pss_one (ps_if (pt_cmpR op_in_seq (pv 6) (pe_glob (v := .ref aOVER_WORDS) rfl mOVER_WORDS rfl) (by with_unfolding_all rfl))
        (pss_one (ps_expr (pe_dpop2 (pv 2) (pv 5) pe_non ⟨by rfl, by rfl, by rfl, by rfl⟩)))
        pss_nil))))))
    (pss_one (ps_ret (pv 1)))))), ?_⟩
  refine ⟨(by show 0 ≤ sizeLine; decide), ?_⟩
  (intro st st0; generalize hh_ : upd _ st _ = H1; have hst := upd_is hh_; have s1 := same_is hh_ st0; clear hh_)
  (intro go go0; generalize hh_ : upd _ go _ = H2; have hgo := upd_is hh_; have s2 := same_is hh_ go0; clear hh_)
  have s02 := s1.trans s2
  have gs : go ≠ st := ne_of_none hst go0 |>.symm
  refine ⟨_, rfl, l, rfl, ⟨_, s02.seq hS⟩, for_list (K := K) (a := l) (xs := ts.map fun t => V.ref t.a) (fun i σ Hy => ∃ (zs : List (Addr × List Tw)) (kvs : List (Key × V)) (k3 k4 k5 k6 : Option V), σ = [some (.ref l), some (.ref st), some (.ref go), k3, k4, k5, k6] ∧
    Hy st = some (.lst (zs.map fun z => V.ref z.1)) ∧ Hy go = some (.dK kvs) ∧ kvs.length ≤ i ∧ StrAt Hy zs ∧ (∀ z ∈ zs, H z.1 = none ∧ z.1 ≠ st ∧ z.1 ≠ go) ∧ zs.map Prod.snd = strokesS (ts.take i) ∧ Go zs kvs (stAt ts i) ∧ Same H Hy) ?_ (fun j σ Hy _ ⟨_, _, _, _, _, _, _, _, _, _, _, _, _, _, sy⟩ => sy.seq hS) ?_ ?_⟩
  · refine ⟨[], [], none, none, none, none, rfl, s2 _ _ hst, hgo, Nat.le_refl _, (fun z hz => absurd hz (by simp)), (fun z hz => absurd hz (by simp)), rfl, ⟨by simp, ?_, ?_, ?_⟩, s02⟩
    · intro f v hv; cases hv
    · intro z hz; exact absurd hz (by simp)
    · intro f; rfl
  · rintro i v σ Hy hi ⟨zs, kvs, k3, k4, k5, k6, rfl, y1, y2, y3, y4, y5, y6, g, sy⟩
    rw [List.getElem?_map] at hi
    obtain ⟨t, ht, rfl⟩ := Option.map_eq_some_iff.mp hi
    obtain ⟨hil, ei⟩ := List.getElem?_eq_some_iff.mp ht
    obtain ⟨tt, tb⟩ := hT t (List.mem_of_getElem? ht)
    have tt2 : TwAt Hy t := sy _ _ tt
    have nbi := ok i hil
    rw [bad_at ht] at nbi
    unfold badT at nbi
    have ne : (isDn t == stAt ts i t.f) = false := (Bool.or_eq_false_iff.mp nbi).2
    have snoc : strokesS (ts.take (i + 1)) = (strokesS (ts.take i)).map (ext t) ++ (if isDn t = true then [[t]] else []) := by
      rw [List.take_succ_eq_append_getElem hil, ei]
      exact strokes_snoc _ _
    have st' := stAt_succ ht
    have zl : zs.length ≤ 60 := by
      have := congrArg List.length y6
      rw [List.length_map] at this
      have q := strokes_len (ts.take i)
      rw [List.length_take] at q
      omega
    refine ⟨_, rfl, t.a, _, rfl, SqT.of tt2, rfl, _, _, rfl, _, _, rfl, _, _, rfl, _, _, rfl, _, _, rfl, rfl, ?_⟩
    refine ⟨_, rfl, rfl, _, rfl, ?_⟩
    rw [dec_str]
    have sH : H st = none := st0
    have gH : H go = none := by
      cases e : H go with
      | none => rfl
      | some o => rw [s1 _ _ e] at go0; cases go0
    have big : (1000 : Nat) ≤ sizeLine := by decide
    have ks : kvs.length < sizeLine := by omega
    refine ite2 (fun p => ?_) fun p => ?_
    · have dn : isDn t = true := p
      have nf : stAt ts i t.f = false := by
        rw [dn] at ne
        cases e : stAt ts i t.f with
        | false => rfl
        | true => rw [e] at ne; cases ne
      refine ⟨(by show 0 ≤ sizeLine; decide), ?_⟩
      (intro n n0; generalize hh_ : upd _ n _ = H3; have hn := upd_is hh_; have s3 := same_is hh_ n0; clear hh_)
      have nst : n ≠ st := (ne_of_none y1 n0).symm
      have ngo : n ≠ go := (ne_of_none y2 n0).symm
      have nH : H n = none := by
        cases e : H n with
        | none => rfl
        | some o => rw [sy _ _ e] at n0; cases n0
      have nzs : n ∉ zs.map Prod.fst := fun h => by
        obtain ⟨z, hz, e⟩ := List.mem_map.mp h
        have := y4 z hz
        rw [e, n0] at this
        cases this
      obtain ⟨g', ex⟩ := g.down dn nf nzs
      have y13 := s3 _ _ y1
      have y23 := s3 _ _ y2
      refine ⟨_, rfl, _, rfl, go, _, rfl, DPut.k (k := Sum.inl t.f) (v := .ref n) y23 ks, ?_⟩
      have hgo4 : (upd H3 go (.dK (putK kvs (Sum.inl t.f) (.ref n)))) go = some (.dK (putK kvs (Sum.inl t.f) (.ref n))) := upd_same
      have y14 : (upd H3 go (.dK (putK kvs (Sum.inl t.f) (.ref n)))) st = _ := (upd_ne gs.symm).trans y13
      have hn4 : (upd H3 go (.dK (putK kvs (Sum.inl t.f) (.ref n)))) n = _ := (upd_ne ngo).trans hn
      have sy4 : Same H (upd H3 go (.dK (putK kvs (Sum.inl t.f) (.ref n)))) := Same.put_new sy s3 gH
      have z4 : ∀ z ∈ zs, (upd H3 go (.dK (putK kvs (Sum.inl t.f) (.ref n)))) z.1 = some (.lst (z.2.map fun t => V.ref t.a)) := fun z hz => (upd_ne (y5 z hz).2.2).trans (s3 _ _ (y4 z hz))
      generalize upd H3 go (.dK (putK kvs (Sum.inl t.f) (.ref n))) = H4 at *
      have dg : ∀ {Hq : Hp}, Hq go = some (.dK (putK kvs (Sum.inl t.f) (.ref n))) → DGet Hq go (.int t.f) (some (.ref n)) := fun {Hq} e => by
        have := DGet.k (k := Sum.inl t.f) e
        rw [valV_put, if_pos rfl] at this
        exact this
      refine ⟨_, rfl, .inl ⟨rfl, _, .inl (.inl y14)⟩, _, rfl, _, rfl, go, _, rfl, dg hgo4, st, _, _, rfl, rfl, y14, sl1000 (by rw [List.length_map]; omega), ?_⟩
      have nst' : n ≠ st := nst
      have hgo5 : (upd H4 st (.lst (zs.map (fun z => V.ref z.1) ++ [V.ref n]))) go = _ := (upd_ne gs).trans hgo4
      have hn5 : (upd H4 st (.lst (zs.map (fun z => V.ref z.1) ++ [V.ref n]))) n = _ := (upd_ne nst).trans hn4
      have y15 : (upd H4 st (.lst (zs.map (fun z => V.ref z.1) ++ [V.ref n]))) st = some (.lst ((zs ++ [(n, [t])]).map fun z => V.ref z.1)) := by
        rw [upd_same, List.map_append]
        rfl
      have sy5 : Same H (upd H4 st (.lst (zs.map (fun z => V.ref z.1) ++ [V.ref n]))) := Same.put_new sy4 (Same.refl _) sH
      have z5 : ∀ z ∈ zs, (upd H4 st (.lst (zs.map (fun z => V.ref z.1) ++ [V.ref n]))) z.1 = some (.lst (z.2.map fun t => V.ref t.a)) := fun z hz => (upd_ne (y5 z hz).2.1).trans (z4 z hz)
      generalize upd H4 st (.lst (zs.map (fun z => V.ref z.1) ++ [V.ref n])) = H5 at *
      refine ⟨_, rfl, _, rfl, go, _, rfl, dg hgo5, _, rfl, iteT ?_⟩
      refine ⟨_, rfl, _, rfl, go, _, rfl, dg hgo5, .inl ⟨rfl, _, .inl (.inl hn5)⟩, _, rfl, n, _, _, rfl, rfl, hn5, sl1000 (by show 0 + 1 ≤ 1000; omega), ?_⟩
      have hgo6 : (upd H5 n (.lst ([] ++ [V.ref t.a]))) go = _ := (upd_ne ngo.symm).trans hgo5
      have y16 : (upd H5 n (.lst ([] ++ [V.ref t.a]))) st = _ := (upd_ne nst.symm).trans y15
      have sy6 : Same H (upd H5 n (.lst ([] ++ [V.ref t.a]))) := Same.put_new sy5 (Same.refl _) nH
      have z6 : StrAt (upd H5 n (.lst ([] ++ [V.ref t.a]))) (zs ++ [(n, [t])]) := fun z hz => by
        rcases List.mem_append.mp hz with hz | hz
        · refine (upd_ne fun e => nzs ?_).trans (z5 z hz)
          exact List.mem_map.mpr ⟨z, hz, e⟩
        · rw [List.mem_singleton.mp hz]
          exact upd_same
      generalize upd H5 n (.lst ([] ++ [V.ref t.a])) = H6 at *
      have y56 : ∀ z ∈ zs ++ [(n, [t])], H z.1 = none ∧ z.1 ≠ st ∧ z.1 ≠ go := fun z hz => by
        rcases List.mem_append.mp hz with hz | hz
        · exact y5 z hz
        · rw [List.mem_singleton.mp hz]
          exact ⟨nH, nst, ngo⟩
      refine ⟨_, rfl, aOVER_WORDS, _, rfl, .inr (qO H6), rfl, rfl, _, rfl, ?_⟩
      refine ite2 (fun p2 => ?_) fun p2 => ?_
      · replace p2 : (decide (t.w = sUp) || decide (t.w = sLost)) = true := by rw [← over_in]; exact p2
        exact absurd (dn_end dn) (by show ¬ (decide (t.w = sUp) || decide (t.w = sLost)) = false; rw [p2]; decide)
      · refine ⟨zs ++ [(n, [t])], _, _, _, _, _, rfl, y16, hgo6, Nat.le_trans (length_putK _ _ _) (by omega), z6, y56, ?_, by rw [st']; exact g', sy6⟩
        rw [snoc, List.map_append, y6.symm, dn, List.map_map]
        congr 1
        refine List.map_congr_left fun z hz => ?_
        exact (ex z hz).symm
    · have dn : isDn t = false := Bool.eq_false_iff.mpr p
      have yf : stAt ts i t.f = true := by
        rw [dn] at ne
        cases e : stAt ts i t.f with
        | true => rfl
        | false => rw [e] at ne; cases ne
      obtain ⟨z0, hz0, hv, oth, e0, g'⟩ := g.more dn yf tb.2.2.1
      have dg : DGet Hy go (.int t.f) (some (.ref z0.1)) := by
        have := DGet.k (k := Sum.inl t.f) y2
        rw [hv] at this
        exact this
      have z0l : z0.2.length ≤ 60 := by
        have m : z0.2 ∈ strokesS (ts.take i) := by
          rw [← y6]
          exact List.mem_map.mpr ⟨z0, hz0, rfl⟩
        have := stroke_len m
        rw [List.length_take] at this
        omega
      refine ⟨_, rfl, _, rfl, go, _, rfl, dg, _, rfl, iteT ?_⟩
      refine ⟨_, rfl, _, rfl, go, _, rfl, dg, .inl ⟨rfl, _, .inl (.inl (y4 z0 hz0))⟩, _, rfl, z0.1, _, _, rfl, rfl, y4 z0 hz0, sl1000 (by rw [List.length_map]; omega), ?_⟩
      obtain ⟨zH, zst, zgo⟩ := y5 z0 hz0
      have hgo3 : (upd Hy z0.1 (.lst (z0.2.map (fun t => V.ref t.a) ++ [V.ref t.a]))) go = _ := (upd_ne zgo.symm).trans y2
      have y13 : (upd Hy z0.1 (.lst (z0.2.map (fun t => V.ref t.a) ++ [V.ref t.a]))) st = _ := (upd_ne zst.symm).trans y1
      have sy3 : Same H (upd Hy z0.1 (.lst (z0.2.map (fun t => V.ref t.a) ++ [V.ref t.a]))) := Same.put_new sy (Same.refl _) zH
      have z3 : StrAt (upd Hy z0.1 (.lst (z0.2.map (fun t => V.ref t.a) ++ [V.ref t.a]))) (zs.map fun z => (z.1, ext t z.2)) := fun z' hz' => by
        obtain ⟨z, hz, rfl⟩ := List.mem_map.mp hz'
        by_cases q : z.1 = z0.1
        · have zz := nd_eq g.nd hz hz0 q
          rw [zz]
          show (upd Hy z0.1 _) z0.1 = some (.lst ((ext t z0.2).map fun t => V.ref t.a))
          rw [upd_same, e0, List.map_append]
          rfl
        · show (upd Hy z0.1 _) z.1 = some (.lst ((ext t z.2).map fun t => V.ref t.a))
          rw [oth z hz q, upd_ne q]
          exact y4 z hz
      generalize upd Hy z0.1 (.lst (z0.2.map (fun t => V.ref t.a) ++ [V.ref t.a])) = H3 at *
      have e3 : (zs.map fun z => (z.1, ext t z.2)).map (fun z => V.ref z.1) = zs.map fun z => V.ref z.1 := by
        rw [List.map_map]
        rfl
      have y53 : ∀ z ∈ zs.map (fun z => (z.1, ext t z.2)), H z.1 = none ∧ z.1 ≠ st ∧ z.1 ≠ go := fun z' hz' => by
        obtain ⟨z, hz, rfl⟩ := List.mem_map.mp hz'
        exact y5 z hz
      have y63 : (zs.map fun z => (z.1, ext t z.2)).map Prod.snd = strokesS (ts.take (i + 1)) := by
        rw [snoc, dn, ← y6, List.map_map, List.map_map, if_neg (by decide), List.append_nil]
        rfl
      have y13' : H3 st = some (.lst ((zs.map fun z => (z.1, ext t z.2)).map fun z => V.ref z.1)) := by rw [e3]; exact y13
      refine ⟨_, rfl, aOVER_WORDS, _, rfl, .inr (qO H3), rfl, rfl, _, rfl, ?_⟩
      refine ite2 (fun p2 => ?_) fun p2 => ?_
      · replace p2 : isEnd t = true := by show (decide (t.w = sUp) || decide (t.w = sLost)) = true; rw [← over_in]; exact p2
        rw [p2, if_pos rfl] at g'
        refine ⟨_, rfl, go, rfl, .inl ⟨_, .inl hgo3⟩, _, rfl, kvs, Sum.inl t.f, hgo3, rfl, fun v hv' => ?_, fun h => ?_⟩
        · have h4 : (upd H3 go (.dK (dropK kvs (Sum.inl t.f)))) go = _ := upd_same
          refine ⟨_, _, _, _, _, _, rfl, (upd_ne gs.symm).trans y13', h4, Nat.le_trans (dropK_le _ _) (by omega), fun z hz => (upd_ne (y53 z hz).2.2).trans (z3 z hz), y53, y63, by rw [st']; exact g', Same.put_new sy3 (Same.refl _) gH⟩
        · rw [hv] at h; cases h
      · replace p2 : isEnd t = false := by
          cases e : isEnd t with
          | false => rfl
          | true => exact absurd (by show inV (.str t.w) [V.str "up", .str "lost"] = true; rw [over_in]; exact e) p2
        rw [p2, if_neg (by decide)] at g'
        exact ⟨_, _, _, _, _, _, rfl, y13', hgo3, by omega, z3, y53, y63, by rw [st']; exact g', sy3⟩
  · rintro σ Hy ⟨zs, kvs, k3, k4, k5, k6, rfl, y1, y2, y3, y4, y5, y6, g, sy⟩
    rw [List.take_of_length_le (by rw [List.length_map]; exact Nat.le_refl _)] at y6
    refine ⟨_, rfl, ?_⟩
    exact k st zs Hy sy y1 y4 y6
end
end SG
namespace SG
open PySem PySem.Spec PyProof.Rows L2
theorem cutV_drop {xs : List V} {i : Nat} (h : i ≤ xs.length) : cutV xs (some (i : Int)) none = xs.drop i := by
  unfold cutV
  rw [show HT.sIx xs.length 0 (some (i : Int)) = i by rw [HT.sIx_nat]; omega]
  show (xs.drop i).take (xs.length - i) = _
  rw [List.take_of_length_le (by rw [List.length_drop]; exact Nat.le_refl _)]
theorem cutV_take {xs : List V} {i : Nat} : cutV xs none (some (i : Int)) = xs.take i := by
  unfold cutV
  rw [HT.sIx_nat]
  show (xs.drop 0).take (min i xs.length - 0) = _
  rw [List.drop_zero, Nat.sub_zero]
  by_cases h : i ≤ xs.length
  · rw [Nat.min_eq_left h]
  · rw [Nat.min_eq_right (by omega), List.take_of_length_le (Nat.le_refl _), List.take_of_length_le (by omega)]
theorem strokes_cons (t : Tw) (r : List Tw) : strokesS (t :: r) = if isDn t = true then (t :: upto (r.filter fun z => decide (z.f = t.f))) :: strokesS r else strokesS r := rfl
theorem dec_int {a b : Int} : decide (V.int a = V.int b) = decide (a = b) := by
  rw [Bool.eq_iff_iff]
  simp
section
variable {P : Program} {w : World} {K : PySem.W.Frag} {mg : Str → Option Value} {base : Heap}
theorem ok_own_strokes (D : Df K mg "_law_strokes" s_law_strokes ["_law_touches"]) (T : Txt K mg) : Cl P w K mg base 1 "_law_strokes" (spStrokes K) := by
  refine D.ok sc_law_strokes (fun vs H Q E h => ?_) (fun f cdv A outer s H vs Q E hr h => ?_)
  · obtain ⟨_, _, rfl, _⟩ := h
    rfl
  obtain ⟨l, ts, rfl, ⟨hS, hT, h60⟩, ok, k⟩ := h
  refine ⟨_, -- _law_found = []
    (pss_cons (ps_set (i := 1) sc_law_strokes.nd rfl (Or.inl rfl) (pe_lst pa_nil))
    (pss_cons (ps_for PassesOwn.never rfl (pi_range1 rfl T.m_range (pa_cons (pe_callB call_len_seq (by rfl) T.m_len PySem.boot_len (pa_cons (pv 0) pa_nil)) pa_nil)) (pg_name (i := 2) sc_law_strokes.nd rfl (Or.inr rfl))
      (pss_one (ps_if (pt_cmpR op_eq (pe_ix ix_tup (pe_ix ix_list (pv 0) (pv 2) (fun _ _ => rfl)) pe_int (fun _ _ => rfl)) pe_str (nomark _))
        (pss_cons (ps_set (i := 3) sc_law_strokes.nd rfl (Or.inr rfl) (pe_lc (own := [("_law_one", 5)]) rfl sc_law_strokes.nd (pi_list (pe_slice sl_list (pv 0) (po_some (pe_op op_add (pv 2) pe_int)) po_none)) (blkOk_by (N := N_law_strokes) (sc := defScope s_law_strokes) (by decide +kernel)) (fun _ _ _ _ _ => (pg_name (i := 5) sc_law_strokes.nd rfl (Or.inl rfl))) (fun _ _ _ _ _ => pts_one (pt_cmpR op_eq (pe_ix (r := rIxT K) ix_tup (pv 5) pe_int (fun _ _ => rfl)) (pe_ix (r := rIxT K) ix_tup (pe_ix (r := rIxL K) ix_list (pv 0) (pv 2) (fun _ _ => rfl)) pe_int (fun _ _ => rfl)) (nomark _))) (fun _ _ _ _ _ => (pv 5))))
        (pss_cons (ps_setLc (i := 4) (own := [("_law_j", 6)]) rfl sc_law_strokes.nd rfl rfl (sw_true rfl rfl rfl (by decide +kernel)) (pi_range1 rfl T.m_range (pa_cons (pe_callB call_len_seq (by rfl) T.m_len PySem.boot_len (pa_cons (pv 3) pa_nil)) pa_nil)) (blkOk_by (N := N_law_strokes) (sc := defScope s_law_strokes) (by decide +kernel)) (fun _ _ _ _ _ => (pg_name (i := 6) sc_law_strokes.nd rfl (Or.inl rfl))) (fun _ _ _ _ _ => pts_one (pt_cmpR (r := rIn K false) op_in_seq (pe_ix (r := rIxT K) ix_tup (pe_ix (r := rIxL K) ix_list (pv 3) (pv 6) (fun _ _ => rfl)) pe_int (fun _ _ => rfl)) (pe_tup (pa_cons pe_str (pa_cons pe_str pa_nil))) (by with_unfolding_all rfl))) (fun _ _ _ _ _ => (pv 6)))
        (pss_one (ps_expr (pe_bm PySem.F.plainAttrs_list PySem.F.slot_list_append PySem.F.type_list_append mt_append (pv 1) (pa_cons (pe_op op_cat (pe_lst (pa_cons (pe_ix ix_list (pv 0) (pv 2) (fun _ _ => rfl)) pa_nil)) (pe_ifExp (pt_cmpR (op_neNil hr.units) (pv 4) (pe_lst pa_nil) (nomark _)) (pe_slice sl_list (pv 3) po_none (po_some (pe_op op_add (pe_ix ix_list (pv 4) pe_int (fun _ _ => rfl)) pe_int))) (pv 3))) pa_nil))))))
        pss_nil)))
    (pss_one (ps_ret (pv 1))))), ?_⟩
  refine ⟨(by show 0 ≤ sizeLine; decide), ?_⟩
  (intro fo fo0; generalize hh_ : upd _ fo _ = H1; have hfo := upd_is hh_; have s1 := same_is hh_ fo0; clear hh_)
  have lm : (ts.map fun t => V.ref t.a).length = ts.length := List.length_map _
  refine ⟨_, rfl, _, _, rfl, .inl (s1.seq hS), ?_⟩
  rw [lm]
  refine ⟨ts.length, rfl, (by omega), (by omega), for_range (n := ((ts.length : Nat) : Int).toNat) (fun i σ Hy => ∃ (zs : List (Addr × List Tw)) (k2 k3 k4 k5 k6 : Option V), σ = [some (.ref l), some (.ref fo), k2, k3, k4, k5, k6] ∧ Hy fo = some (.lst (zs.map fun z => V.ref z.1)) ∧ StrAt Hy zs ∧ (∀ z ∈ zs, z.1 ≠ fo) ∧
    zs.map Prod.snd ++ strokesS (ts.drop i) = strokesS ts ∧ zs.length ≤ i ∧ Same H Hy) ?_ ?_ ?_⟩
  · exact ⟨[], none, none, none, none, none, rfl, hfo, (fun z hz => absurd hz (by simp)), (fun z hz => absurd hz (by simp)), rfl, Nat.le_refl _, s1⟩
  · rintro i σ Hy hi ⟨zs, k2, k3, k4, k5, k6, rfl, y1, y2, y3, y4, y5, sy⟩
    have hil : i < ts.length := by omega
    obtain ⟨t, ht⟩ : ∃ t, ts[i]? = some t := ⟨_, List.getElem?_eq_getElem hil⟩
    obtain ⟨_, ei⟩ := List.getElem?_eq_some_iff.mp ht
    obtain ⟨tt, tb⟩ := hT t (List.mem_of_getElem? ht)
    have tt2 : TwAt Hy t := sy _ _ tt
    have at_i : ∀ {j : Nat} {u : Tw}, ts[j]? = some u → atI (ts.map fun t => V.ref t.a) (j : Int) = some (.ref u.a) := fun {j u} e => by
      refine atI_nat ?_
      rw [List.getElem?_map, e]
      rfl
    have z0 : (0 : Int) + (i : Int) = ((i : Nat) : Int) := by omega
    have dr : ts.drop i = t :: ts.drop (i + 1) := by rw [← ei]; exact List.drop_eq_getElem_cons hil
    rw [z0]
    refine ⟨_, rfl, _, rfl, l, _, _, _, rfl, rfl, sy.seq hS, at_i ht, t.a, _, 2, _, rfl, rfl, SqT.of tt2, at5_2, rfl, _, rfl, ?_⟩
    rw [dec_str]
    refine ite2 (fun p => ?_) fun p => ?_
    · have dn : isDn t = true := p
      refine ⟨_, rfl, _, rfl, _, _, rfl, rfl, _, rfl, l, _, rfl, sy.seq hS, ?_⟩
      rw [show (i : Int) + 1 = ((i + 1 : Nat) : Int) by omega, cutV_drop (by rw [lm]; omega), ← List.map_drop]
      generalize hrs : ts.drop (i + 1) = rs at *
      have rsT : ∀ u ∈ rs, u ∈ ts := fun u hu => by rw [← hrs] at hu; exact List.mem_of_mem_drop hu
      have rs60 : rs.length ≤ 60 := by
        have := List.length_drop (l := ts) (i := i + 1)
        rw [hrs] at this
        omega
      (intro cu cu0; generalize hh_ : upd _ cu _ = H2; have hcu := upd_is hh_; have s2 := same_is hh_ cu0; clear hh_)
      have sy2 := sy.trans s2
      refine ⟨cu, rfl, ⟨_, SqL.of hcu⟩, ?_⟩
      intro mo mo0
      refine lc_list (K := K) (a := cu) (xs := rs.map fun t => V.ref t.a) (fun j Hz => Hz mo = some (.lst (((rs.take j).filter fun z => decide (z.f = t.f)).map fun t => V.ref t.a)) ∧ Same H2 Hz) ⟨upd_same, same_new mo0⟩ (fun i Hz _ ⟨_, sz1⟩ => SqL.of (sz1 _ _ hcu)) ?_ ?_
      · rintro j v Hz hj ⟨z1, sz1⟩
        rw [List.getElem?_map] at hj
        obtain ⟨u, hu, rfl⟩ := Option.map_eq_some_iff.mp hj
        obtain ⟨hjl, ejl⟩ := List.getElem?_eq_some_iff.mp hu
        have e1 : (rs.take (j + 1)).filter (fun z => decide (z.f = t.f)) = (rs.take j).filter (fun z => decide (z.f = t.f)) ++ (if u.f = t.f then [u] else []) := by
          rw [List.take_succ_eq_append_getElem hjl, ejl, List.filter_append]
          by_cases w : u.f = t.f
          · rw [if_pos w, List.filter_cons_of_pos (by simpa using w), List.filter_nil]
          · rw [if_neg w, List.filter_cons_of_neg (by simpa using w), List.filter_nil]
        have few : (((rs.take j).filter (fun z => decide (z.f = t.f))).map fun t => V.ref t.a).length ≤ 100 := by
          rw [List.length_map]
          refine Nat.le_trans (List.length_filter_le _ _) ?_
          rw [List.length_take]
          omega
        have sz := sy2.trans sz1
        have uz : TwAt Hz u := sz _ _ (hT u (rsT u (List.mem_of_getElem? hu))).1
        have tz : TwAt Hz t := sz _ _ tt
        refine ⟨rfl, ?_⟩
        refine ⟨_, rfl, u.a, _, 1, _, rfl, rfl, SqT.of uz, at5_1, _, rfl, _, rfl, l, _, _, _, rfl, rfl, sz.seq hS, at_i ht, t.a, _, 1, _, rfl, rfl, SqT.of tz, at5_1, rfl, _, rfl, ?_⟩
        rw [e1, dec_int]
        refine ite2 (fun p2 => ?_) fun p2 => ?_
        · rw [if_pos (of_decide_eq_true p2)]
          refine ⟨_, rfl, _, z1, sl1000 (by omega), ?_, fun p o e => by rw [upd_ne (ne_of_none e mo0)]; exact sz1 _ _ e⟩
          rw [upd_same, List.map_append]
          rfl
        · rw [if_neg (fun e => p2 (decide_eq_true e)), List.append_nil]
          exact ⟨z1, sz1⟩
      rintro H3 ⟨hmo, s3⟩
      rw [List.take_of_length_le (by rw [List.length_map]; exact Nat.le_refl _)] at hmo
      have moT : ∀ u ∈ rs.filter (fun z => decide (z.f = t.f)), u ∈ ts := fun u hu => rsT u (List.mem_filter.mp hu).1
      have mo60 : (rs.filter (fun z => decide (z.f = t.f))).length ≤ 60 := Nat.le_trans (List.length_filter_le _ _) rs60
      rw [dr, strokes_cons, dn, if_pos rfl] at y4
      generalize rs.filter (fun z => decide (z.f = t.f)) = ms at *
      have lms : (ms.map fun t => V.ref t.a).length = ms.length := List.length_map _
      have sy3 := sy2.trans s3
      refine ⟨_, rfl, _, _, rfl, .inl (SqL.of hmo), ?_⟩
      rw [lms]
      refine ⟨_, rfl, (by omega), (by omega), fun en en0 => ?_⟩
      refine lc_range (n := ((ms.length : Nat) : Int).toNat) (fun j Hz => Hz en = some (.lst (((List.range j).filter fun j => (ms[j]?).any isEnd).map fun j => V.int (j : Nat))) ∧ Same H3 Hz) ⟨upd_same, same_new en0⟩ ?_ ?_
      · rintro j Hz hj ⟨z1, sz1⟩
        obtain ⟨u, hu⟩ : ∃ u, ms[j]? = some u := ⟨_, List.getElem?_eq_getElem (by omega)⟩
        have sz := sy3.trans sz1
        have uz : TwAt Hz u := sz _ _ (hT u (moT u (List.mem_of_getElem? hu))).1
        have at_j : atI (ms.map fun t => V.ref t.a) (0 + (j : Int)) = some (.ref u.a) := by
          rw [show (0 : Int) + (j : Int) = (j : Int) by omega]
          refine atI_nat ?_
          rw [List.getElem?_map, hu]
          rfl
        refine ⟨rfl, ?_⟩
        refine ⟨_, rfl, _, rfl, mo, _, _, _, rfl, rfl, SqL.of (sz1 _ _ hmo), at_j, u.a, _, 2, _, rfl, rfl, SqT.of uz, at5_2, (by show 2 ≤ sizeLine; decide), ?_⟩
        (intro q q0; generalize hh_ : upd _ q _ = Hw; have hq := upd_is hh_; have sw := same_is hh_ q0; clear hh_)
        have key : (List.range (j + 1)).filter (fun j => (ms[j]?).any isEnd) = (List.range j).filter (fun j => (ms[j]?).any isEnd) ++ (if isEnd u = true then [j] else []) := by
          rw [List.range_succ, List.filter_append]
          cases w : isEnd u with
          | true => rw [List.filter_cons_of_pos (by rw [hu]; exact w), List.filter_nil]; rfl
          | false => rw [List.filter_cons_of_neg (by rw [hu]; show ¬ isEnd u = true; rw [w]; decide), List.filter_nil]; rfl
        have few : (((List.range j).filter (fun j => (ms[j]?).any isEnd)).map fun j => V.int (j : Nat)).length ≤ 100 := by
          rw [List.length_map]
          refine Nat.le_trans (List.length_filter_le _ _) ?_
          rw [List.length_range]
          omega
        refine ⟨q, _, rfl, .inr (SqT.of hq), rfl, rfl, _, rfl, ?_⟩
        rw [key]
        refine ite2 (fun p2 => ?_) fun p2 => ?_
        · replace p2 : isEnd u = true := by show (decide (u.w = sUp) || decide (u.w = sLost)) = true; rw [← over_in]; exact p2
          rw [if_pos p2]
          refine ⟨_, rfl, _, sw _ _ z1, sl1000 (by omega), ?_, fun p o e => by rw [upd_ne (ne_of_none e en0)]; exact sw _ _ (sz1 _ _ e)⟩
          rw [upd_same, List.map_append, show (0 : Int) + (j : Int) = (j : Int) by omega]
          rfl
        · replace p2 : ¬ isEnd u = true := fun e => p2 (by show inV (.str u.w) [V.str "up", .str "lost"] = true; rw [over_in]; exact e)
          rw [if_neg p2, List.append_nil]
          exact ⟨sw _ _ z1, sz1.trans sw⟩
      rintro H4 ⟨hen, s4⟩
      have up := upto_ends ms
      rw [show ((ms.length : Nat) : Int).toNat = ms.length by omega] at hen
      generalize (List.range ms.length).filter (fun j => (ms[j]?).any isEnd) = es at *
      have sy4 := sy3.trans s4
      have s14 := (s2.trans s3).trans s4
      have y14 := s14 _ _ y1
      have hmo4 := s4 _ _ hmo
      refine ⟨_, rfl, .inl ⟨rfl, _, .inl (.inl y14)⟩, ?_⟩
      refine ⟨_, rfl, _, rfl, l, _, _, _, rfl, rfl, sy4.seq hS, at_i ht, (by show 1 ≤ sizeLine; decide), ?_⟩
      (intro on on0; generalize hh_ : upd _ on _ = H5; have hon := upd_is hh_; have s5 := same_is hh_ on0; clear hh_)
      refine ⟨_, rfl, (by show 0 ≤ sizeLine; decide), ?_⟩
      (intro nl nl0; generalize hh_ : upd _ nl _ = H6; have hnl := upd_is hh_; have s6 := same_is hh_ nl0; clear hh_)
      have s56 := s5.trans s6
      refine ⟨en, nl, _, rfl, rfl, SqL.of (s56 _ _ hen), SqL.of hnl, _, rfl, ?_⟩
      cases es with
      | nil =>
        have e0 : upto ms = ms := up
        refine iteF ?_
        refine ⟨_, rfl, ?_⟩
        have hy := s56 _ _ hmo4
        rw [← e0] at hy
        have y68 : Same H4 H6 := s56.trans (Same.refl H6)
        refine ⟨on, mo, _, _, rfl, rfl, (s6.trans (Same.refl H6)) _ _ hon, hy, sl1000 (by rw [List.length_map]; have := upto_len ms; show 1 + _ ≤ _; omega), ?_⟩
        (intro sn sn0; generalize hh_ : upd _ sn _ = H8; have hsn := upd_is hh_; have s8 := same_is hh_ sn0; clear hh_)
        have hsn' : H8 sn = some (.lst ((t :: upto ms).map fun t => V.ref t.a)) := hsn
        have s48 := y68.trans s8
        have y18 := s48 _ _ y14
        have snfo : sn ≠ fo := (ne_of_none (y68 _ _ y14) sn0).symm
        refine ⟨fo, _, _, rfl, rfl, y18, sl1000 (by rw [List.length_map]; omega), ?_⟩
        refine ⟨zs ++ [(sn, t :: upto ms)], _, _, _, _, _, rfl, by rw [upd_same, List.map_append]; rfl, fun z hz => ?_, fun z hz => ?_, ?_, by simp; omega, Same.put_new (sy4.trans s48) (Same.refl _) fo0⟩
        · rcases List.mem_append.mp hz with hz | hz
          · exact (upd_ne (y3 z hz)).trans (s48 _ _ (s14 _ _ (y2 z hz)))
          · rw [List.mem_singleton.mp hz]
            exact (upd_ne snfo).trans hsn'
        · rcases List.mem_append.mp hz with hz | hz
          · exact y3 z hz
          · rw [List.mem_singleton.mp hz]
            exact snfo
        · rw [List.map_append, List.append_assoc]
          exact y4
      | cons j js =>
        have e0 : upto ms = ms.take (j + 1) := up
        refine ite2 (fun _ => ?_) (fun q => absurd q (by simp))
        refine ⟨_, rfl, _, rfl, en, _, 0, _, rfl, rfl, SqL.of (s56 _ _ hen), atI_nat (j := 0) rfl, _, _, rfl, rfl, _, rfl, ?_⟩
        refine ⟨mo, _, rfl, SqL.of (s56 _ _ hmo4), ?_⟩
        rw [show (j : Int) + 1 = ((j + 1 : Nat) : Int) by omega, cutV_take, ← List.map_take, ← e0]
        (intro cv cv0; generalize hh_ : upd _ cv _ = H7; have hy := upd_is hh_; have s7 := same_is hh_ cv0; clear hh_)
        have y68 : Same H4 H7 := s56.trans s7
        refine ⟨on, cv, _, _, rfl, rfl, (s6.trans s7) _ _ hon, hy, sl1000 (by rw [List.length_map]; have := upto_len ms; show 1 + _ ≤ _; omega), ?_⟩
        (intro sn sn0; generalize hh_ : upd _ sn _ = H8; have hsn := upd_is hh_; have s8 := same_is hh_ sn0; clear hh_)
        have hsn' : H8 sn = some (.lst ((t :: upto ms).map fun t => V.ref t.a)) := hsn
        have s48 := y68.trans s8
        have y18 := s48 _ _ y14
        have snfo : sn ≠ fo := (ne_of_none (y68 _ _ y14) sn0).symm
        refine ⟨fo, _, _, rfl, rfl, y18, sl1000 (by rw [List.length_map]; omega), ?_⟩
        refine ⟨zs ++ [(sn, t :: upto ms)], _, _, _, _, _, rfl, by rw [upd_same, List.map_append]; rfl, fun z hz => ?_, fun z hz => ?_, ?_, by simp; omega, Same.put_new (sy4.trans s48) (Same.refl _) fo0⟩
        · rcases List.mem_append.mp hz with hz | hz
          · exact (upd_ne (y3 z hz)).trans (s48 _ _ (s14 _ _ (y2 z hz)))
          · rw [List.mem_singleton.mp hz]
            exact (upd_ne snfo).trans hsn'
        · rcases List.mem_append.mp hz with hz | hz
          · exact y3 z hz
          · rw [List.mem_singleton.mp hz]
            exact snfo
        · rw [List.map_append, List.append_assoc]
          exact y4
    · have dn : isDn t = false := Bool.eq_false_iff.mpr p
      rw [dr] at y4
      rw [strokes_cons, dn] at y4
      exact ⟨zs, _, _, _, _, _, rfl, y1, y2, y3, y4, by omega, sy⟩
  · rintro σ Hy ⟨zs, k2, k3, k4, k5, k6, rfl, y1, y2, y3, y4, y5, sy⟩
    rw [List.drop_of_length_le (by omega), show strokesS [] = [] from rfl, List.append_nil] at y4
    refine ⟨_, rfl, ?_⟩
    exact k fo zs Hy sy y1 y2 y4
end
end SG
namespace SG
open PySem PySem.Spec PyProof.Rows L2
section
variable {K : PySem.W.Frag} {H H' H1 H2 : Hp} {t c p : Addr} {n m : Nat}
theorem ne_fresh {o : HO} (h : H c = some o) (hp : H p = none) : p ≠ c := (ne_of_none h hp).symm
theorem Fr.fresh {S : List Addr} (f : Fr S H H1) (hp : H1 p = none) (hn : p ∉ S) : H p = none := by
  cases e : H p with
  | none => rfl
  | some o => rw [f _ _ e hn] at hp; cases hp
theorem Fr.upd_new {o : HO} {S : List Addr} (a : Fr S H H1) (b : Fr S H1 H2) (hp : H p = none) : Fr S H (upd H2 p o) := fun q u e n => by
  rw [L2.upd_ne (ne_of_none e hp)]
  exact b _ _ (a _ _ e n) n
end
def spRows (K : PySem.W.Frag) : Sp := fun vs H Q _ => ∃ (t c : Addr) (m n : Nat) (b : Bool), vs = [.ref t, .int m, .bl b] ∧ TapeAt H t c n ∧ m ≤ 41 ∧ n ≤ 100000000 ∧
  ∀ (l : Addr) (ts : List Tw) (H' : Hp), H l = none → H' l = some (.lst (ts.map fun t => V.ref t.a)) → (∀ z ∈ ts, TwAt H' z ∧ TwB z) → ts.length ≤ 50 → TapeAt H' t c (n + 1000) → Fr [t] H H' → Q (.ref l) H'
section
variable {P : Program} {w : World} {K : PySem.W.Frag} {mg : Str → Option Value} {base : Heap}
theorem ok_rows (D : Df K mg "_law_rows" s_law_rows ["_law_tape_here", "_law_many", "_law_strict"]) (T : Txt K mg) (c_law_draw : Cl P w K mg base 1 "_law_draw" spDraw) : Cl P w K mg base 2 "_law_rows" (spRows K) := by
  refine D.ok sc_law_rows (fun vs H Q E h => ?_) (fun f cdv A outer s H vs Q E hr h => ?_)
  · obtain ⟨_, _, _, _, _, rfl, _⟩ := h
    rfl
  obtain ⟨t, c, m, n, b, rfl, hT, hm, hn, k⟩ := h
  have hu := hu_of hr
  refine ⟨_, -- _law_down = []
    (pss_cons (ps_set (i := 3) sc_law_rows.nd rfl (Or.inl rfl) (pe_lst pa_nil))
    (pss_cons (ps_set (i := 4) sc_law_rows.nd rfl (Or.inl rfl) (pe_cl c_law_draw (hr.mono (by first | decide | omega)) rfl (pa_cons (pv 0) (pa_cons pe_int pa_nil))))
    (pss_cons (ps_set (i := 5) sc_law_rows.nd rfl (Or.inl rfl) (pe_lst pa_nil))
    (pss_cons (ps_for PassesOwn.never rfl (pi_range1 rfl T.m_range (pa_cons (pv 1) pa_nil)) (pg_name (i := 6) sc_law_rows.nd rfl (Or.inl rfl))
      (pss_cons (ps_set (i := 4) sc_law_rows.nd rfl (Or.inl rfl) (pe_op op_add (pv 4) (pe_ix ix_list (pe_lst (pa_cons pe_int (pa_cons pe_int (pa_cons pe_int (pa_cons (pe_cl c_law_draw (hr.mono (by first | decide | omega)) rfl (pa_cons (pv 0) (pa_cons pe_int pa_nil))) pa_nil))))) (pe_cl c_law_draw (hr.mono (by first | decide | omega)) rfl (pa_cons (pv 0) (pa_cons pe_int pa_nil))) (fun _ _ => rfl))))
      (pss_cons (ps_set (i := 7) sc_law_rows.nd rfl (Or.inr rfl) (pe_cl c_law_draw (hr.mono (by first | decide | omega)) rfl (pa_cons (pv 0) (pa_cons pe_int pa_nil))))
      (C8.pss_cut (ps_set (i := 8) sc_law_rows.nd rfl (Or.inl rfl) (pe_ifExp (pt_cmpR op_in_seq (pv 7) (pv 3) (by with_unfolding_all rfl)) (pe_ix ix_list (pe_lst (pa_cons pe_str (pa_cons pe_str (pa_cons pe_str (pa_cons pe_str pa_nil))))) (pe_cl c_law_draw (hr.mono (by first | decide | omega)) rfl (pa_cons (pv 0) (pa_cons pe_int pa_nil))) (fun _ _ => rfl)) pe_str))
      (C8.pss_cut (ps_if (PW.pt (pw_and (pt_not (pt_val (pv 2))) (pw_and1 (pt_cmpR op_eq (pe_cl c_law_draw (hr.mono (by first | decide | omega)) rfl (pa_cons (pv 0) (pa_cons pe_int pa_nil))) pe_int (nomark _)))))
        (pss_cons (ps_set (i := 8) sc_law_rows.nd rfl (Or.inl rfl) (pe_ix ix_list (pe_lst (pa_cons pe_str (pa_cons pe_str (pa_cons pe_str (pa_cons pe_str pa_nil))))) (pe_cl c_law_draw (hr.mono (by first | decide | omega)) rfl (pa_cons (pv 0) (pa_cons pe_int pa_nil))) (fun _ _ => rfl)))
        (pss_one (ps_set (i := 4) sc_law_rows.nd rfl (Or.inl rfl) (pe_callB (call_max2 rfl) (by rfl) T.m_max (by decide +kernel) (pa_cons pe_int (pa_cons (pe_op op_sub (pv 4) (pe_cl c_law_draw (hr.mono (by first | decide | omega)) rfl (pa_cons (pv 0) (pa_cons pe_int pa_nil)))) pa_nil))))))
        pss_nil)
      (pss_cons (ps_expr (pe_bm PySem.F.plainAttrs_list PySem.F.slot_list_append PySem.F.type_list_append mt_append (pv 5) (pa_cons (pe_tup (pa_cons (pv 4) (pa_cons (pv 7) (pa_cons (pv 8) (pa_cons (pe_op op_sub (pe_cl c_law_draw (hr.mono (by first | decide | omega)) rfl (pa_cons (pv 0) (pa_cons pe_int pa_nil))) pe_int) (pa_cons (pe_op op_sub (pe_cl c_law_draw (hr.mono (by first | decide | omega)) rfl (pa_cons (pv 0) (pa_cons pe_int pa_nil))) pe_int) pa_nil)))))) pa_nil)))
      (pss_one (ps_set (i := 3) sc_law_rows.nd rfl (Or.inl rfl) (pe_op op_cat (pe_lc (own := [("_law_one", 9)]) rfl sc_law_rows.nd (pi_list (pv 3)) (blkOk_by (N := N_law_rows) (sc := defScope s_law_rows) (by decide +kernel)) (fun _ _ _ _ _ => (pg_name (i := 9) sc_law_rows.nd rfl (Or.inl rfl))) (fun _ _ _ _ _ => pts_one (pt_cmpR op_ne (pv 9) (pv 7) (nomark _))) (fun _ _ _ _ _ => (pv 9))) (pe_op op_rep (pe_lst (pa_cons (pv 7) pa_nil)) (pe_callTy call_int1 rfl T.m_int (by decide +kernel) (pa_cons (pe_cmpR op_in_seq (pv 8) (pe_tup (pa_cons pe_str (pa_cons pe_str pa_nil))) (by with_unfolding_all rfl)) pa_nil))))))))))))
    (pss_one (ps_ret (pv 5))))))), ?_⟩
  refine ⟨(by show 0 ≤ sizeLine; decide), ?_⟩
  (intro dl dl0; generalize hh_ : upd _ dl _ = H1; have hdl := upd_is hh_; have s1 := same_is hh_ dl0; clear hh_)
  have T1 := hT.same s1
  refine ⟨_, rfl, t, c, 50, n, rfl, T1, ⟨by decide, by decide⟩, by omega, fun r0 H2 hr0 T2 f2 => ?_⟩
  have f02 := (Fr.same s1 [t]).trans f2
  have hdl2 := f2 _ _ hdl (not_in_one (hT.ne_new dl0))
  refine ⟨(by show 0 ≤ sizeLine; decide), ?_⟩
  (intro fo fo0; generalize hh_ : upd _ fo _ = H3; have hfo := upd_is hh_; have s3 := same_is hh_ fo0; clear hh_)
  have f03 := f02.trans (Fr.same s3 _)
  have fH := Fr.fresh f02 fo0 (not_in_one (T2.ne_new fo0))
  have fot := T2.ne_new fo0
  have foc := T2.ne_newc fo0
  have dlfo : dl ≠ fo := (ne_fresh hdl2 fo0).symm
  have T3 := T2.same s3
  have hdl3 := s3 _ _ hdl2
  refine ⟨_, rfl, m, rfl, (by omega), (by omega), for_range (n := ((m : Nat) : Int).toNat) (fun i σ Hy => ∃ (dl : Addr) (ds : List Int) (mo : Int) (k6 k7 k8 k9 : Option V) (ts : List Tw), σ = [some (.ref t), some (.int m), some (.bl b), some (.ref dl), some (.int mo), some (.ref fo), k6, k7, k8, k9] ∧
    Hy dl = some (.lst (ds.map V.int)) ∧ ds.length ≤ i ∧ dl ≠ fo ∧ (0 ≤ mo ∧ mo ≤ 50 + 300 * (i : Int)) ∧ Hy fo = some (.lst (ts.map fun t => V.ref t.a)) ∧ ts.length = i ∧ (∀ z ∈ ts, TwAt Hy z ∧ TwB z) ∧ TapeAt Hy t c (n + 1 + 10 * i) ∧ Fr [t] H Hy) ?_ ?_ ?_⟩
  · exact ⟨dl, [], r0, none, none, none, none, [], rfl, hdl3, Nat.le_refl _, dlfo, ⟨hr0.1, by omega⟩, hfo, rfl, by simp, T3, f03⟩
  · clear hdl hdl2 hdl3 hfo s1 T1 f02 f03 T3 T2 f2 hT dlfo dl0 fo0 s3 hr0
    rintro i σ Hy hi ⟨dl, ds, mo, k6, k7, k8, k9, ts, rfl, y1, y2, y3, y4, y5, y6, y7, Ty, fy⟩
    have dlt := Ty.ne_lst y1
    refine ⟨_, rfl, _, rfl, t, c, 300, _, rfl, Ty, ⟨by decide, by decide⟩, by omega, fun r4 H4 hr4 T4 f4 => ?_⟩
    refine ⟨(by show 4 ≤ sizeLine; decide), ?_⟩
    intro p hp
    refine ⟨_, rfl, ?_⟩
    refine pick_draw (xs := [V.int 0, .int 1, .int 9, .int r4]) T4 (by omega) rfl ⟨(by show 1 ≤ 4; decide), (by show 4 ≤ 1000; decide)⟩ (fun v H5 hv T5 f5 => ?_) p hp
    obtain ⟨q, rfl, q1, q2⟩ : ∃ q : Int, v = .int q ∧ 0 ≤ q ∧ q ≤ 299 := by
      simp only [List.mem_cons, List.not_mem_nil, or_false] at hv
      rcases hv with rfl | rfl | rfl | rfl
      · exact ⟨_, rfl, by decide, by decide⟩
      · exact ⟨_, rfl, by decide, by decide⟩
      · exact ⟨_, rfl, by decide, by decide⟩
      · exact ⟨_, rfl, by omega, by omega⟩
    clear hp hv p
    refine ⟨_, _, rfl, rfl, ?_⟩
    refine ⟨_, rfl, t, c, 10, _, rfl, T5, ⟨by decide, by decide⟩, by omega, fun g H6 hg T6 f6 => ?_⟩
    have f46 := (f4.trans f5).trans f6
    have y16 := f46 _ _ y1 (not_in_one dlt)
    refine ⟨fun σ' H' => ∃ w : Str, σ' = [some (.ref t), some (.int m), some (.bl b), some (.ref dl), some (.int (mo + q)), some (.ref fo), some (.int (0 + (i : Int))), some (.int g), some (.str w), k9] ∧ (w = sDown ∨ w = sMove ∨ w = sUp ∨ w = sLost) ∧ TapeAt H' t c (n + 1 + 10 * i + 4) ∧ Fr [t] Hy H', ?_, ?_⟩
    · refine ⟨_, rfl, _, rfl, dl, _, rfl, .inl (SqL.of y16), rfl, flat_ints ds, _, rfl, ite2 (fun _ => ?_) fun _ => ?_⟩
      · refine ⟨(by show 4 ≤ sizeLine; decide), ?_⟩
        intro p hp
        refine ⟨_, rfl, ?_⟩
        refine pick_draw (xs := [V.str "move", .str "up", .str "lost", .str "move"]) T6 (by omega) rfl ⟨(by show 1 ≤ 4; decide), (by show 4 ≤ 1000; decide)⟩ (fun v H7 hv T7 f7 => ?_) p hp
        simp only [List.mem_cons, List.not_mem_nil, or_false] at hv
        rcases hv with rfl | rfl | rfl | rfl
        · exact ⟨_, rfl, .inr (.inl rfl), T7, f46.trans f7⟩
        · exact ⟨_, rfl, .inr (.inr (.inl rfl)), T7, f46.trans f7⟩
        · exact ⟨_, rfl, .inr (.inr (.inr rfl)), T7, f46.trans f7⟩
        · exact ⟨_, rfl, .inr (.inl rfl), T7, f46.trans f7⟩
      · exact ⟨_, rfl, .inl rfl, T6.mono (by omega), f46⟩
    clear T4 T5 T6 f4 f5 f6 f46 y16
    rintro σ' H6 ⟨w0, rfl, hw0, T6, f6⟩
    refine ⟨fun σ' H' => ∃ (w : Str) (mo : Int), σ' = [some (.ref t), some (.int m), some (.bl b), some (.ref dl), some (.int mo), some (.ref fo), some (.int (0 + (i : Int))), some (.int g), some (.str w), k9] ∧ (w = sDown ∨ w = sMove ∨ w = sUp ∨ w = sLost) ∧ (0 ≤ mo ∧ mo ≤ 50 + 300 * ((i + 1 : Nat) : Int)) ∧ TapeAt H' t c (n + 1 + 10 * i + 7) ∧ Fr [t] Hy H', ?_, ?_⟩
    · refine ⟨_, rfl, _, rfl, ite2 (fun _ => ?_) fun _ => ?_⟩
      · refine ⟨_, rfl, t, c, 12, _, rfl, T6, ⟨by decide, by decide⟩, by omega, fun r7 H7 hr7 T7 f7 => ?_⟩
        refine ⟨rfl, _, rfl, ite2 (fun _ => ?_) fun _ => ?_⟩
        · refine ⟨(by show 4 ≤ sizeLine; decide), ?_⟩
          intro p hp
          refine ⟨_, rfl, ?_⟩
          refine pick_draw (xs := [V.str "down", .str "move", .str "up", .str "lost"]) T7 (by omega) rfl ⟨(by show 1 ≤ 4; decide), (by show 4 ≤ 1000; decide)⟩ (fun v H8 hv T8 f8 => ?_) p hp
          obtain ⟨w1, rfl, hw1⟩ : ∃ w : Str, v = .str w ∧ (w = sDown ∨ w = sMove ∨ w = sUp ∨ w = sLost) := by
            simp only [List.mem_cons, List.not_mem_nil, or_false] at hv
            rcases hv with rfl | rfl | rfl | rfl
            · exact ⟨_, rfl, .inl rfl⟩
            · exact ⟨_, rfl, .inr (.inl rfl)⟩
            · exact ⟨_, rfl, .inr (.inr (.inl rfl))⟩
            · exact ⟨_, rfl, .inr (.inr (.inr rfl))⟩
          refine ⟨_, rfl, _, rfl, t, c, 3, _, rfl, T8, ⟨by decide, by decide⟩, by omega, fun r9 H9 hr9 T9 f9 => ?_⟩
          refine ⟨_, _, rfl, rfl, _, _, rfl, ?_⟩
          refine ⟨w1, _, rfl, hw1, ?_, T9.mono (by omega), ((f6.trans f7).trans f8).trans f9⟩
          split <;> constructor <;> omega
        · exact ⟨w0, _, rfl, hw0, ⟨by omega, by omega⟩, T7.mono (by omega), f6.trans f7⟩
      · exact ⟨w0, _, rfl, hw0, ⟨by omega, by omega⟩, T6.mono (by omega), f6⟩
    clear T6 f6 hw0 w0
    rintro σ' H6 ⟨w0, m2, rfl, hw0, hm2, T6, f6⟩
    have y56 := f6 _ _ y5 (not_in_one fot)
    refine ⟨_, rfl, .inl ⟨rfl, _, .inl (.inl y56)⟩, _, rfl, _, rfl, _, rfl, _, rfl, t, c, 300, _, rfl, T6, ⟨by decide, by decide⟩, by omega, fun x7 H7 hx7 T7 f7 => ?_⟩
    refine ⟨_, _, rfl, rfl, _, rfl, t, c, 300, _, rfl, T7, ⟨by decide, by decide⟩, by omega, fun x8 H8 hx8 T8 f8 => ?_⟩
    refine ⟨_, _, rfl, rfl, (by show 5 ≤ sizeLine; decide), ?_⟩
    (intro a a0; generalize hh_ : upd _ a _ = H9; have ha := upd_is hh_; have s9 := same_is hh_ a0; clear hh_)
    have f69 := (f7.trans f8).trans (Fr.same s9 _)
    have fy9 := f6.trans f69
    have y59 := f69 _ _ y56 (not_in_one fot)
    have T9 := T8.same s9
    refine ⟨fo, _, _, rfl, rfl, y59, sl1000 (by rw [List.length_map]; omega), ?_⟩
    have T10 : TapeAt (upd H9 fo (.lst (ts.map (fun t => V.ref t.a) ++ [V.ref a]))) t c (n + 1 + 10 * i + 9) := (T9.put fot foc).mono (by omega)
    have f10 : Fr [t] H (upd H9 fo (.lst (ts.map (fun t => V.ref t.a) ++ [V.ref a]))) := (fy.trans fy9).upd_new (Fr.refl _ _) fH
    have tup10 : ∀ (b : Addr) (xs : List V), H9 b = some (.tup xs) → (upd H9 fo (.lst (ts.map (fun t => V.ref t.a) ++ [V.ref a]))) b = some (.tup xs) := fun b xs e => by
      rw [L2.upd_ne (ne_of e y59 (by intro z; cases z))]
      exact e
    have y510 : (upd H9 fo (.lst (ts.map (fun t => V.ref t.a) ++ [V.ref a]))) fo = some (.lst ((ts ++ [(⟨a, m2, g, w0, x7 - 100, x8 - 100⟩ : Tw)]).map fun t => V.ref t.a)) := by
      rw [upd_same, List.map_append]
      rfl
    have y110 : (upd H9 fo (.lst (ts.map (fun t => V.ref t.a) ++ [V.ref a]))) dl = some (.lst (ds.map V.int)) := (upd_ne y3).trans (fy9 _ _ y1 (not_in_one dlt))
    have y710 : ∀ z ∈ ts ++ [(⟨a, m2, g, w0, x7 - 100, x8 - 100⟩ : Tw)], TwAt (upd H9 fo (.lst (ts.map (fun t => V.ref t.a) ++ [V.ref a]))) z ∧ TwB z := fun z hz => by
      rcases List.mem_append.mp hz with hz | hz
      · exact ⟨tup10 _ _ (fy9 _ _ (y7 z hz).1 (not_in_one (Ty.ne_tup (y7 z hz).1))), (y7 z hz).2⟩
      · rw [List.mem_singleton.mp hz]
        refine ⟨tup10 _ _ ha, ⟨?_, by show m2 ≤ _; omega⟩, ⟨by show 0 ≤ g; omega, by show g ≤ 9; omega⟩, hw0, ⟨by show _ ≤ x7 - 100; omega, by show x7 - 100 ≤ _; omega⟩, ⟨by show _ ≤ x8 - 100; omega, by show x8 - 100 ≤ _; omega⟩⟩
        exact hm2.1
    have l10 : (ts ++ [(⟨a, m2, g, w0, x7 - 100, x8 - 100⟩ : Tw)]).length = i + 1 := by simp [y6]
    generalize upd H9 fo (.lst (ts.map (fun t => V.ref t.a) ++ [V.ref a])) = H10 at *
    generalize ts ++ [(⟨a, m2, g, w0, x7 - 100, x8 - 100⟩ : Tw)] = ts' at *
    clear tup10 y59 y56 fy9 f69 s9 ha a0 T9 T8 T7 f8 f7 y1 y5 y6 y7 Ty
    refine ⟨_, rfl, dl, rfl, ⟨_, SqL.of y110⟩, ?_⟩
    intro q q0
    refine lc_list (K := K) (a := dl) (xs := ds.map V.int) (fun i Hz => Hz q = some (.lst (((ds.take i).filter fun z => !decide (z = g)).map V.int)) ∧ Same H10 Hz) ⟨upd_same, same_new q0⟩ (fun i Hz _ ⟨_, sz1⟩ => SqL.of (sz1 _ _ y110)) ?_ ?_
    · rintro j v Hz hj ⟨z1, sz1⟩
      rw [List.getElem?_map] at hj
      obtain ⟨z, hz, rfl⟩ := Option.map_eq_some_iff.mp hj
      obtain ⟨hjl, ejl⟩ := List.getElem?_eq_some_iff.mp hz
      have e1 : (ds.take (j + 1)).filter (fun z => !decide (z = g)) = (ds.take j).filter (fun z => !decide (z = g)) ++ (if z = g then [] else [z]) := by
        rw [List.take_succ_eq_append_getElem hjl, ejl, List.filter_append]
        by_cases w : z = g
        · rw [if_pos w, List.filter_cons_of_neg (by simpa using w), List.filter_nil]
        · rw [if_neg w, List.filter_cons_of_pos (by simpa using w), List.filter_nil]
      have few : (((ds.take j).filter (fun z => !decide (z = g))).map V.int).length ≤ 100 := by
        rw [List.length_map]
        refine Nat.le_trans (List.length_filter_le _ _) ?_
        rw [List.length_take]
        omega
      refine ⟨rfl, ?_⟩
      refine ⟨_, rfl, _, rfl, rfl, _, rfl, ?_⟩
      rw [e1]
      refine ite2 (fun p2 => ?_) fun p2 => ?_
      · have ne : ¬ z = g := fun e => by simp [e] at p2
        rw [if_neg ne]
        refine ⟨_, rfl, _, z1, sl1000 (by omega), ?_, fun p o e => by rw [upd_ne (ne_of_none e q0)]; exact sz1 _ _ e⟩
        rw [upd_same, List.map_append]
        rfl
      · have ne : z = g := Classical.byContradiction fun e => p2 (by simp [e])
        rw [if_pos ne, List.append_nil]
        exact ⟨z1, sz1⟩
    rintro H2 ⟨hq, s2⟩
    rw [List.take_of_length_le (by rw [List.length_map]; exact Nat.le_refl _)] at hq
    refine ⟨_, rfl, (by show 1 ≤ sizeLine; decide), ?_⟩
    (intro q2 q20; generalize hh_ : upd _ q2 _ = H3; have hq2 := upd_is hh_; have s3 := same_is hh_ q20; clear hh_)
    refine ⟨_, rfl, (by show 2 ≤ sizeLine; decide), ?_⟩
    (intro q3 q30; generalize hh_ : upd _ q3 _ = H4; have hq3 := upd_is hh_; have s4 := same_is hh_ q30; clear hh_)
    refine ⟨q3, _, rfl, .inr (SqT.of hq3), rfl, rfl, .inr ⟨_, rfl, ?_⟩⟩
    show rRep _ (.int (if inV (.str w0) [V.str "down", .str "move"] = true then 1 else 0)) H4 _
    rw [dnmv_in]
    refine ⟨q2, _, _, rfl, rfl, s4 _ _ hq2, by split <;> decide, by split <;> decide, rep_few _ _, ?_⟩
    rw [rep_map]
    (intro q4 q40; generalize hh_ : upd _ q4 _ = H5; have hq4 := upd_is hh_; have s5 := same_is hh_ q40; clear hh_)
    have hq5 := s5 _ _ (s4 _ _ (s3 _ _ hq))
    have lq := nextD_len ds g (decide (w0 = sDown) || decide (w0 = sMove))
    have lm2 := congrArg List.length (nextD_map ds g (decide (w0 = sDown) || decide (w0 = sMove)))
    rw [List.length_append, List.length_map (as := nextD _ _ _)] at lm2
    refine ⟨q, q4, _, _, rfl, rfl, hq5, hq4, Nat.le_trans (Nat.le_of_eq lm2) (sl1000 (by omega)), ?_⟩
    rw [nextD_map]
    have s105 := s2.trans (s3.trans (s4.trans s5))
    intro q6 q60
    have q6fo : q6 ≠ fo := ne_fresh (s105 _ _ y510) q60
    revert q6
    intro q6 q60 q6fo
    generalize hh_ : upd H5 q6 _ = H6'
    have hq6 := upd_is hh_
    have s6 := same_is hh_ q60
    have sall := s105.trans s6
    exact ⟨q6, nextD ds g (decide (w0 = sDown) || decide (w0 = sMove)), m2, _, _, _, _, ts', rfl, hq6, by omega, q6fo, hm2, sall _ _ y510, l10, fun z hz => ⟨sall _ _ (y710 z hz).1, (y710 z hz).2⟩, (T10.same sall).mono (by omega), f10.trans (Fr.same sall _)⟩
  · rintro σ Hy ⟨dl, ds, mo, k6, k7, k8, k9, ts, rfl, y1, y2, y3, y4, y5, y6, y7, Ty, fy⟩
    refine ⟨_, rfl, ?_⟩
    exact k fo ts Hy fH y5 y7 (by omega) (Ty.mono (by omega)) fy
end
end SG
namespace SG
open PySem PySem.Spec PyProof.Rows L2
theorem DpAll.append {K : PySem.W.Frag} {H : Hp} : ∀ {ds es : List PyData} {vs ws : List V}, DpAll K H vs ds → DpAll K H ws es → DpAll K H (vs ++ ws) (ds ++ es)
  | _, _, _, _, .nil, q => q
  | _, _, _, _, .cons h t, q => .cons h (DpAll.append t q)
theorem DpAll.take {K : PySem.W.Frag} {H : Hp} : ∀ {ds : List PyData} {vs : List V} (k : Nat), DpAll K H vs ds → DpAll K H (vs.take k) (ds.take k)
  | _, _, 0, _ => .nil
  | _, _, _ + 1, .nil => .nil
  | _, _, k + 1, .cons h t => .cons h (DpAll.take k t)
theorem DpAll.drop {K : PySem.W.Frag} {H : Hp} : ∀ {ds : List PyData} {vs : List V} (k : Nat), DpAll K H vs ds → DpAll K H (vs.drop k) (ds.drop k)
  | _, _, 0, q => q
  | _, _, _ + 1, .nil => .nil
  | _, _, k + 1, .cons h t => DpAll.drop k t
theorem sqT_ne {K : PySem.W.Frag} {H H' : Hp} {c t : Addr} {xs : List V} {kvs : List (Key × V)} (hc : SqT K H c xs) (ht : H t = some (.dK kvs)) (f : Fr [t] H H') : SqT K H' c xs := by
  rcases hc with (h | ⟨o, h⟩) | h
  · exact .inl (.inl (f _ _ h (by simp only [List.mem_singleton]; exact ne_of h ht (by intro z; cases z))))
  · exact .inl (.inr ⟨o, f _ _ h (by simp only [List.mem_singleton]; exact ne_of h ht (by intro z; cases z))⟩)
  · exact .inr h
mutual
theorem Dp.keep {K : PySem.W.Frag} {H H' : Hp} (kL : ∀ a xs, SqL K H a xs → SqL K H' a xs) (kT : ∀ a xs, SqT K H a xs → SqT K H' a xs) : ∀ {d : PyData} {v : V}, Dp K H v d → Dp K H' v d
  | _, _, .non => .non
  | _, _, .bl b => .bl b
  | _, _, .int i => .int i
  | _, _, .str x => .str x
  | _, _, .lst a b => .lst (kL _ _ a) (DpAll.keep kL kT b)
  | _, _, .tup a b => .tup (kT _ _ a) (DpAll.keep kL kT b)
theorem DpAll.keep {K : PySem.W.Frag} {H H' : Hp} (kL : ∀ a xs, SqL K H a xs → SqL K H' a xs) (kT : ∀ a xs, SqT K H a xs → SqT K H' a xs) : ∀ {ds : List PyData} {vs : List V}, DpAll K H vs ds → DpAll K H' vs ds
  | _, _, .nil => .nil
  | _, _, .cons h t => .cons (Dp.keep kL kT h) (DpAll.keep kL kT t)
end
theorem Dp.fr {K : PySem.W.Frag} {H H' : Hp} {t c : Addr} {n : Nat} {d : PyData} {v : V} (h : Dp K H v d) (T : TapeAt H t c n) (f : Fr [t] H H') : Dp K H' v d := by
  obtain ⟨kvs, ht⟩ := T.is
  exact Dp.keep (fun _ _ q => sq_ne q ht f) (fun _ _ q => sqT_ne q ht f) h
/-- a tuple of data, of at most so many -/
def TupE (K : PySem.W.Frag) (H : Hp) (a : Addr) (n : Nat) : Prop := ∃ (xs : List V) (ds : List PyData), SqT K H a xs ∧ DpAll K H xs ds ∧ xs.length ≤ n
theorem TupE.same {K : PySem.W.Frag} {H H' : Hp} {a : Addr} {n : Nat} (h : TupE K H a n) (s : Same H H') : TupE K H' a n := by
  obtain ⟨xs, ds, h1, h2, h3⟩ := h
  exact ⟨xs, ds, same_sqT s h1, DpAll.same s h2, h3⟩
theorem TupE.fr {K : PySem.W.Frag} {H H' : Hp} {t c : Addr} {a : Addr} {n m : Nat} (h : TupE K H a n) (T : TapeAt H t c m) (f : Fr [t] H H') : TupE K H' a n := by
  obtain ⟨xs, ds, h1, h2, h3⟩ := h
  obtain ⟨kvs, ht⟩ := T.is
  exact ⟨xs, ds, sqT_ne h1 ht f, DpAll.keep (fun _ _ q => sq_ne q ht f) (fun _ _ q => sqT_ne q ht f) h2, h3⟩
theorem TupE.dp {K : PySem.W.Frag} {H : Hp} {a : Addr} {n : Nat} (h : TupE K H a n) : ∃ d, Dp K H (.ref a) d := by
  obtain ⟨xs, ds, h1, h2, h3⟩ := h
  exact ⟨_, .tup h1 h2⟩
theorem slice_e {K : PySem.W.Frag} {H : Hp} {a : Addr} {n : Nat} {lo hi : Option Int} {Q : VK} (h : TupE K H a n) (k : ∀ b H', Same H H' → TupE K H' b n → Q (.ref b) H') : rSlA K (.ref a) lo hi H Q := by
  obtain ⟨xs, ds, h1, h2, h3⟩ := h
  refine ⟨a, xs, rfl, h1, fun _ => k a H (Same.refl _) ⟨xs, ds, h1, h2, h3⟩, fun _ p hp => ?_⟩
  refine k p _ (same_new hp) ⟨_, _, SqT.of upd_same, DpAll.same (same_new hp) (DpAll.take _ (DpAll.drop _ h2)), ?_⟩
  unfold cutV
  rw [List.length_take, List.length_drop]
  omega
theorem cat_e {K : PySem.W.Frag} {H : Hp} {a b : Addr} {n m : Nat} {Q : VK} (h : TupE K H a n) (h' : TupE K H b m) (few : n + m ≤ 100) (k : ∀ b H', Same H H' → TupE K H' b (n + m) → Q (.ref b) H') : rCatA K (.ref a) (.ref b) H Q := by
  obtain ⟨xs, ds, h1, h2, h3⟩ := h
  obtain ⟨ys, es, h4, h5, h6⟩ := h'
  refine ⟨a, b, xs, ys, rfl, rfl, h1, h4, sl1000 (by omega), fun _ => k b H (Same.refl _) ⟨ys, es, h4, h5, by omega⟩, fun _ _ => k a H (Same.refl _) ⟨xs, ds, h1, h2, by omega⟩, fun _ _ p hp => ?_⟩
  refine k p _ (same_new hp) ⟨_, _, SqT.of upd_same, DpAll.same (same_new hp) (DpAll.append h2 h5), ?_⟩
  rw [List.length_append]
  omega
theorem str_of {v : V} {H : Hp} {Q : VK} (hv : (∃ i : Int, v = .int i ∧ i.natAbs ≤ 1000000000) ∨ ∃ s, v = .str s) (k : ∀ z, Q (.str z) H) : rStrIS [v] H Q := by
  rcases hv with ⟨i, rfl, hi⟩ | ⟨s, rfl⟩
  · refine .inl ⟨i, rfl, ?_, k _⟩
    by_cases z : i.natAbs = 0
    · rw [z]; decide
    · exact (Nat.log2_lt z).mpr (Nat.lt_of_lt_of_le (Nat.lt_of_le_of_lt hi (by decide : 1000000000 < 2 ^ 30)) (Nat.pow_le_pow_right (by decide) (by decide)))
  · exact .inr ⟨s, rfl, k _⟩
def spBent (K : PySem.W.Frag) : Sp := fun vs H Q _ => ∃ (t c : Addr) (n : Nat) (u : Tw), vs = [.ref t, .ref u.a] ∧ TapeAt H t c n ∧ n ≤ 100000000 ∧ TwAt H u ∧ TwB u ∧
  ∀ (v : V) (d : PyData) (H' : Hp), Dp K H' v d → TapeAt H' t c (n + 3) → Fr [t] H H' → Q v H'
theorem TwAt.five {H : Hp} {u : Tw} (b : TwB u) : ∀ v ∈ [V.int u.m, .int u.f, .str u.w, .int u.x, .int u.y], ((∃ i : Int, v = .int i ∧ i.natAbs ≤ 1000000000) ∨ ∃ s, v = .str s) := by
  obtain ⟨⟨a1, a2⟩, ⟨a3, a4⟩, _, ⟨a5, a6⟩, ⟨a7, a8⟩⟩ := b
  intro v hv
  simp only [List.mem_cons, List.not_mem_nil, or_false] at hv
  rcases hv with rfl | rfl | rfl | rfl | rfl
  · exact .inl ⟨_, rfl, by omega⟩
  · exact .inl ⟨_, rfl, by omega⟩
  · exact .inr ⟨_, rfl⟩
  · exact .inl ⟨_, rfl, by omega⟩
  · exact .inl ⟨_, rfl, by omega⟩
theorem flat_dp {K : PySem.W.Frag} {H : Hp} {v : V} (hv : (∃ i : Int, v = .int i ∧ i.natAbs ≤ 1000000000) ∨ ∃ s, v = .str s) : ∃ d, Dp K H v d := by
  rcases hv with ⟨i, rfl, _⟩ | ⟨s, rfl⟩
  · exact ⟨_, .int _⟩
  · exact ⟨_, .str _⟩
section
variable {P : Program} {w : World} {K : PySem.W.Frag} {mg : Str → Option Value} {base : Heap}
theorem ok_bent (D : Df K mg "_law_bent" s_law_bent ["_law_tape_here", "_law_touch"]) (T : Txt K mg) (c_law_draw : Cl P w K mg base 1 "_law_draw" spDraw) : Cl P w K mg base 2 "_law_bent" (spBent K) := by
  refine D.ok sc_law_bent (fun vs H Q E h => ?_) (fun f cdv A outer s H vs Q E hr h => ?_)
  · obtain ⟨_, _, _, _, rfl, _⟩ := h
    rfl
  obtain ⟨t, c, n, u, rfl, hT, hn, hu, ub, k⟩ := h
  refine ⟨_, -- _law_at = _law_draw(_law_tape_here, 5)
    (pss_cons (ps_set (i := 2) sc_law_bent.nd rfl (Or.inl rfl) (pe_cl c_law_draw (hr.mono (by first | decide | omega)) rfl (pa_cons (pv 0) (pa_cons pe_int pa_nil))))
    (pss_cons (ps_set (i := 3) sc_law_bent.nd rfl (Or.inl rfl) (pe_ix ix_tup (pv 1) (pv 2) (fun _ _ => rfl)))
    (pss_cons (ps_set (i := 4) sc_law_bent.nd rfl (Or.inl rfl) (pe_lst (pa_cons (pe_un un_neg pe_int) (pa_cons pe_int (pa_cons pe_int (pa_cons pe_int (pa_cons (pe_op op_powG pe_int pe_int) (pa_cons (pe_op op_add (pe_op op_powG pe_int pe_int) pe_int) (pa_cons pe_int (pa_cons pe_int (pa_cons (pe_un un_neg pe_int) (pa_cons (pe_un un_neg pe_int) (pa_cons pe_bl (pa_cons pe_non (pa_cons pe_str (pa_cons pe_str (pa_cons pe_str (pa_cons pe_str pa_nil))))))))))))))))))
    (pss_cons (ps_set (i := 4) sc_law_bent.nd rfl (Or.inl rfl) (pe_op op_cat (pv 4) (pe_lst (pa_cons (pe_callTy call_strIS (by rfl) T.m_str (by decide +kernel) (pa_cons (pv 3) pa_nil)) (pa_cons (pe_tup (pa_cons (pv 3) pa_nil)) (pa_cons (pe_lst (pa_cons (pv 3) pa_nil)) pa_nil))))))
    (pss_cons (ps_set (i := 5) sc_law_bent.nd rfl (Or.inl rfl) (pe_op op_catA (pe_op op_catA (pe_slice sl_tupA (pv 1) po_none (po_some (pv 2))) (pe_tup (pa_cons (pe_ix ix_list (pv 4) (pe_cl c_law_draw (hr.mono (by first | decide | omega)) rfl (pa_cons (pv 0) (pa_cons pe_int pa_nil))) (fun _ _ => rfl)) pa_nil))) (pe_slice sl_tupA (pv 1) (po_some (pe_op op_add (pv 2) pe_int)) po_none)))
    (pss_one (ps_ret (pe_ix ix_list (pe_lst (pa_cons (pv 5) (pa_cons (pv 5) (pa_cons (pv 5) (pa_cons (pe_callTy call_list_of rfl T.m_list (by decide +kernel) (pa_cons (pv 5) pa_nil)) (pa_cons (pe_op op_catA (pv 5) (pe_tup (pa_cons pe_int pa_nil))) (pa_cons (pe_slice sl_tupA (pv 5) po_none (po_some pe_int)) (pa_cons (pe_ix ix_tup (pv 1) (pv 2) (fun _ _ => rfl)) pa_nil)))))))) (pe_cl c_law_draw (hr.mono (by first | decide | omega)) rfl (pa_cons (pv 0) (pa_cons pe_int pa_nil))) (fun _ _ => rfl))))))))), ?_⟩
  refine ⟨_, rfl, t, c, 5, n, rfl, hT, ⟨by decide, by decide⟩, by omega, fun r0 H1 hr0 T1 f1 => ?_⟩
  have hu1 : TwAt H1 u := f1 _ _ hu (not_in_one (hT.ne_tup hu))
  obtain ⟨v, hv, ev⟩ := at_in (xs := [V.int u.m, .int u.f, .str u.w, .int u.x, .int u.y]) hr0.1 hr0.2
  have fv := TwAt.five (H := H1) ub v hv
  clear hT hu hv
  refine ⟨_, rfl, _, rfl, u.a, _, _, v, rfl, rfl, SqT.of hu1, ev, ?_⟩
  refine ⟨_, rfl, _, _, rfl, rfl, ⟨by decide, by decide +kernel⟩, _, _, rfl, rfl, ⟨by decide, by decide +kernel⟩, _, _, rfl, rfl, _, rfl, _, rfl, (by show 16 ≤ sizeLine; decide), ?_⟩
  (intro l1 l10; generalize hh_ : upd _ l1 _ = H2; have hl1 := upd_is hh_; have s2 := same_is hh_ l10; clear hh_)
  refine ⟨_, rfl, _, rfl, ?_⟩
  unfold tNil
  dsimp only
  refine str_of fv fun z => ?_
  refine ⟨_, rfl, (by show 1 ≤ sizeLine; decide), ?_⟩
  (intro p3 p30; generalize hh_ : upd _ p3 _ = H3; have hp3 := upd_is hh_; have s3 := same_is hh_ p30; clear hh_)
  refine ⟨_, rfl, (by show 1 ≤ sizeLine; decide), ?_⟩
  (intro p4 p40; generalize hh_ : upd _ p4 _ = H4; have hp4 := upd_is hh_; have s4 := same_is hh_ p40; clear hh_)
  refine ⟨(by show 3 ≤ sizeLine; decide), ?_⟩
  (intro l5 l50; generalize hh_ : upd _ l5 _ = H5; have hl5 := upd_is hh_; have s5 := same_is hh_ l50; clear hh_)
  have s25 := s3.trans (s4.trans s5)
  refine ⟨l1, l5, _, _, rfl, rfl, s25 _ _ hl1, hl5, (by show 19 ≤ sizeLine; decide), ?_⟩
  (intro l6 l60; generalize hh_ : upd _ l6 _ = H6; have hl6 := upd_is hh_; have s6 := same_is hh_ l60; clear hh_)
  have s16 := s2.trans (s25.trans s6)
  have T6 := T1.same s16
  have f6 := f1.trans (Fr.same s16 _)
  have hu6 : TwAt H6 u := s16 _ _ hu1
  obtain ⟨dv, hdv⟩ := flat_dp (K := K) (H := H6) fv
  have some6 : ∀ x ∈ [V.int (-1), .int 0, .int 9, .int 10, .int (10 ^ (9 : Int).toNat), .int (10 ^ (9 : Int).toNat + 1), .int 10000, .int 10001, .int (-10000), .int (-10001), .bl true, .non, .str "down", .str "Up", .str "", .str "lost"] ++ [V.str z, .ref p3, .ref p4], ∃ d, Dp K H6 x d := by
    intro x hx
    simp only [List.cons_append, List.nil_append, List.mem_cons, List.not_mem_nil, or_false] at hx
    rcases hx with rfl | rfl | rfl | rfl | rfl | rfl | rfl | rfl | rfl | rfl | rfl | rfl | rfl | rfl | rfl | rfl | rfl | rfl | rfl
    all_goals first | exact ⟨_, .int _⟩ | exact ⟨_, .bl _⟩ | exact ⟨_, .non⟩ | exact ⟨_, .str _⟩ | skip
    · exact ⟨_, .tup (SqT.of ((s4.trans (s5.trans s6)) _ _ hp3)) (.cons hdv .nil)⟩
    · exact ⟨_, .lst (SqL.of ((s5.trans s6) _ _ hp4)) (.cons hdv .nil)⟩
  have l19 : ([V.int (-1), .int 0, .int 9, .int 10, .int (10 ^ (9 : Int).toNat), .int (10 ^ (9 : Int).toNat + 1), .int 10000, .int 10001, .int (-10000), .int (-10001), .bl true, .non, .str "down", .str "Up", .str "", .str "lost"] ++ [V.str z, .ref p3, .ref p4]).length = 19 := rfl
  dsimp only at hl6
  generalize [V.int (-1), .int 0, .int 9, .int 10, .int (10 ^ (9 : Int).toNat), .int (10 ^ (9 : Int).toNat + 1), .int 10000, .int 10001, .int (-10000), .int (-10001), .bl true, .non, .str "down", .str "Up", .str "", .str "lost"] ++ [V.str z, .ref p3, .ref p4] = som at *
  clear hl1 hl5 hp3 hp4 s25 s16 s2 s3 s4 s5 s6 T1 f1 hu1 p30 p40 l10 l50
  have tu : TupE K H6 u.a 5 := ⟨_, _, SqT.of hu6, .cons (.int _) (.cons (.int _) (.cons (.str _) (.cons (.int _) (.cons (.int _) .nil)))), Nat.le_refl _⟩
  refine ⟨_, rfl, _, rfl, _, rfl, slice_e tu fun q1 H7 s7 e7 => ?_⟩
  have T7 := T6.same s7
  refine ⟨_, rfl, _, rfl, t, c, 19, _, rfl, T7, ⟨by decide, by decide⟩, by omega, fun r8 H8 hr8 T8 f8 => ?_⟩
  obtain ⟨x, hx, ex⟩ := at_in (xs := som) hr8.1 (by rw [l19]; exact hr8.2)
  obtain ⟨dx, hdx⟩ := some6 x hx
  have f68 := (Fr.same s7 [t]).trans f8
  refine ⟨l6, som, _, x, rfl, rfl, SqL.of (f68 _ _ hl6 (not_in_one (T6.ne_lst hl6))), ex, (by show 1 ≤ sizeLine; decide), ?_⟩
  (intro q2 q20; generalize hh_ : upd _ q2 _ = H9; have hq2 := upd_is hh_; have s9 := same_is hh_ q20; clear hh_)
  have f69 := f68.trans (Fr.same s9 _)
  have f79 := f8.trans (Fr.same s9 _)
  have e2 : TupE K H9 q2 1 := ⟨_, _, SqT.of hq2, .cons (Dp.fr hdx T6 f69) .nil, Nat.le_refl _⟩
  refine cat_e (e7.fr T7 f79) e2 (by decide) fun q3 H10 s10 e10 => ?_
  have f610 := f69.trans (Fr.same s10 _)
  refine ⟨_, rfl, _, rfl, _, _, rfl, rfl, _, rfl, ?_⟩
  dsimp only [tNoPart]
  refine slice_e (tu.fr T6 f610) fun q4 H11 s11 e11 => ?_
  refine cat_e (e10.same s11) e11 (by decide) fun q5 H12 s12 e12 => ?_
  have f612 := f610.trans (Fr.same (s11.trans s12) _)
  have T12 := ((T8.same s9).same s10).same (s11.trans s12)
  have tu12 := tu.fr T6 f612
  clear tu e11 e10 e2 hq2 q20 hl6 some6 f69 f79 f68 f8 s9 s10 s11 s12 T8 hdx hx ex s7 e7 T7
  obtain ⟨xs5, ds5, sq5, al5, ln5⟩ := e12
  refine ⟨_, rfl, _, rfl, _, rfl, _, rfl, q5, xs5, rfl, .inr sq5, ?_⟩
  (intro q6 q60; generalize hh_ : upd _ q6 _ = H13; have hq6 := upd_is hh_; have s13 := same_is hh_ q60; clear hh_)
  refine ⟨_, rfl, (by show 1 ≤ sizeLine; decide), ?_⟩
  (intro q7 q70; generalize hh_ : upd _ q7 _ = H14; have hq7 := upd_is hh_; have s14 := same_is hh_ q70; clear hh_)
  have s24 := s13.trans s14
  have e5 : TupE K H14 q5 (5 + 1 + 5) := ⟨xs5, ds5, same_sqT s24 sq5, DpAll.same s24 al5, ln5⟩
  refine cat_e e5 ⟨_, _, SqT.of hq7, .cons (.int 0) .nil, Nat.le_refl 1⟩ (by decide) fun q8 H15 s15 e8 => ?_
  refine ⟨_, rfl, ?_⟩
  dsimp only [tNoPart, tPart, tC]
  refine ⟨_, rfl, ?_⟩
  refine slice_e (e5.same s15) fun q9 H16 s16 e9 => ?_
  have s216 := s24.trans (s15.trans s16)
  have hu16 : TwAt H16 u := (f612.trans (Fr.same s216 _)) _ _ hu6 (not_in_one (T6.ne_tup hu6))
  refine ⟨_, rfl, _, rfl, u.a, _, _, v, rfl, rfl, SqT.of hu16, ev, (by show 7 ≤ sizeLine; decide), ?_⟩
  intro p hp
  refine ⟨_, rfl, ?_⟩
  have T16 := T12.same s216
  have e516 := e5.same (s15.trans s16)
  have e816 := e8.same s16
  have d6 : ∃ d, Dp K H16 (.ref q6) d := ⟨_, .lst (SqL.of ((s14.trans (s15.trans s16)) _ _ hq6)) (DpAll.same s216 al5)⟩
  refine pick_draw (xs := [V.ref q5, .ref q5, .ref q5, .ref q6, .ref q8, .ref q9, v]) T16 (by omega) rfl ⟨(by show 1 ≤ 7; decide), (by show 7 ≤ 1000; decide)⟩ (fun y H17 hy T17 f17 => ?_) p hp
  have dy : ∃ d, Dp K H16 y d := by
    simp only [List.mem_cons, List.not_mem_nil, or_false] at hy
    rcases hy with rfl | rfl | rfl | rfl | rfl | rfl | rfl
    · exact e516.dp
    · exact e516.dp
    · exact e516.dp
    · exact d6
    · exact e816.dp
    · exact e9.dp
    · exact flat_dp fv
  obtain ⟨d, hd⟩ := dy
  exact k y d H17 (Dp.fr hd T16 f17) (T17.mono (by omega)) (f6.trans ((f612.trans (Fr.same s216 _)).trans f17))
end
end SG
namespace SG
open PySem PySem.Spec PyProof.Rows L2
theorem tape_is (c : Addr) (s l : Int) : mergeK [] [((Sum.inr ("cells" : Str) : Key), V.ref c), (Sum.inr ("spot" : Str), .int s), (Sum.inr ("left" : Str), .int l)] = tapeD c s l := by
  simp [mergeK, putK, tapeD, n12, n13, n23]
def spTape (K : PySem.W.Frag) : Sp := fun vs H Q _ => ∃ (a : Addr) (ns : List Int), vs = [.ref a] ∧ SqL K H a (ns.map V.int) ∧ ns.length ≤ 63 ∧ ∀ (t c : Addr) (H' : Hp), TapeAt H' t c 0 → Same H H' → Q (.ref t) H'
def spLaw (K : PySem.W.Frag) : Sp := fun vs H Q _ => ∃ (a : Addr) (ns : List Int), vs = [.ref a] ∧ SqL K H a (ns.map V.int) ∧ ns.length ≤ 63 ∧ ∀ H', Q (.bl true) H'
theorem upto_mem : ∀ {l : List Tw} {t : Tw}, t ∈ upto l → t ∈ l
  | h :: r, t, ht => by
    unfold upto at ht
    split at ht
    · rw [List.mem_singleton.mp ht]
      exact List.mem_cons_self
    · rcases List.mem_cons.mp ht with e | e
      · rw [e]; exact List.mem_cons_self
      · exact List.mem_cons_of_mem _ (upto_mem e)
theorem stroke_mem : ∀ {p : List Tw} {c : List Tw} {t : Tw}, c ∈ strokesS p → t ∈ c → t ∈ p
  | h :: r, c, t, hc, ht => by
    rw [strokes_cons] at hc
    split at hc
    · rcases List.mem_cons.mp hc with e | e
      · rw [e] at ht
        rcases List.mem_cons.mp ht with q | q
        · rw [q]; exact List.mem_cons_self
        · exact List.mem_cons_of_mem _ (List.mem_filter.mp (upto_mem q)).1
      · exact List.mem_cons_of_mem _ (stroke_mem e ht)
    · exact List.mem_cons_of_mem _ (stroke_mem hc ht)
theorem tws_dp {K : PySem.W.Frag} {H : Hp} : ∀ {ts : List Tw}, (∀ t ∈ ts, TwAt H t) → DpAll K H (ts.map fun t => V.ref t.a) (ts.map twD)
  | [], _ => .nil
  | t :: r, h => .cons (TwAt.dp (h t List.mem_cons_self)) (tws_dp fun z hz => h z (List.mem_cons_of_mem _ hz))
theorem tws_plain : ∀ ts : List Tw, PyData.plainAll (ts.map twD) = true
  | [] => rfl
  | t :: r => by
    show (PyData.plain (twD t) && PyData.plainAll (r.map twD)) = true
    rw [tws_plain r]
    rfl
theorem tws_depth : ∀ ts : List Tw, PyData.depthAll (ts.map twD) ≤ 2
  | [] => Nat.zero_le _
  | t :: r => by
    show max (PyData.depth (twD t)) (PyData.depthAll (r.map twD)) ≤ 2
    have e := tws_depth r
    have e2 : PyData.depth (twD t) = 1 := rfl
    omega
def csD (cs : List (List Tw)) : List PyData := cs.map fun c => .list (c.map twD)
theorem strs_dp {K : PySem.W.Frag} {H : Hp} : ∀ {zs : List (Addr × List Tw)}, StrAt H zs → (∀ z ∈ zs, ∀ t ∈ z.2, TwAt H t) → DpAll K H (zs.map fun z => V.ref z.1) (csD (zs.map Prod.snd))
  | [], _, _ => .nil
  | z :: r, h, h2 => .cons (.lst (SqL.of (h z List.mem_cons_self)) (tws_dp (h2 z List.mem_cons_self))) (strs_dp (fun y hy => h y (List.mem_cons_of_mem _ hy)) fun y hy => h2 y (List.mem_cons_of_mem _ hy))
theorem csD_plain : ∀ cs : List (List Tw), PyData.plainAll (csD cs) = true
  | [] => rfl
  | c :: r => by
    show (PyData.plainAll (c.map twD) && PyData.plainAll (csD r)) = true
    rw [tws_plain, csD_plain r]
    rfl
theorem csD_depth : ∀ cs : List (List Tw), PyData.depthAll (csD cs) ≤ 3
  | [] => Nat.zero_le _
  | c :: r => by
    show max (PyData.depthAll (c.map twD) + 1) (PyData.depthAll (csD r)) ≤ 3
    have e := csD_depth r
    have e2 := tws_depth c
    omega
theorem list_eq {K : PySem.W.Frag} {H : Hp} {a b : Addr} {ts : List Tw} {Q : VK} (ha : SqL K H a (ts.map fun t => V.ref t.a)) (hb : SqL K H b (ts.map fun t => V.ref t.a)) (ht : ∀ t ∈ ts, TwAt H t) (k : Q (.bl false) H) : rNeP K (.ref a) (.ref b) H Q := by
  have pl : PyData.plain (.list (ts.map twD)) = true := tws_plain ts
  have dp : PyData.depth (.list (ts.map twD)) ≤ 64 := by
    show PyData.depthAll _ + 1 ≤ 64
    have := tws_depth ts
    omega
  refine ⟨_, _, .lst ha (tws_dp ht), .lst hb (tws_dp ht), pl, pl, by rw [Nat.min_self]; exact dp, ?_⟩
  rw [SeqAt.eqv_refl_plain _ pl]
  exact k
theorem part_w {K : PySem.W.Frag} {H : Hp} {l : Addr} {ts : List Tw} {Q : VK} (hl : SqL K H l (ts.map fun t => V.ref t.a)) (k : ∀ p, H p = none → Q (.ref p) (upd H p (.lst ((rightOf ts).map fun t => V.ref t.a)))) :
    (wV (wrong ts) = .non ∧ rSlL K (.ref l) none none H Q) ∨ ∃ i, wV (wrong ts) = .int i ∧ rSlL K (.ref l) none (some i) H Q := by
  unfold rightOf at k
  cases e : wrong ts with
  | none =>
    rw [e] at k
    refine .inl ⟨rfl, l, _, rfl, hl, fun p hp => ?_⟩
    have e2 : cutV (ts.map fun t => V.ref t.a) none none = ts.map fun t => V.ref t.a := by
      unfold cutV
      show ((ts.map fun t => V.ref t.a).drop 0).take ((ts.map fun t => V.ref t.a).length - 0) = _
      rw [List.drop_zero, Nat.sub_zero, List.take_length]
    rw [e2]
    exact k p hp
  | some j =>
    rw [e] at k
    refine .inr ⟨(j : Int), rfl, l, _, rfl, hl, fun p hp => ?_⟩
    rw [cutV_take, ← List.map_take]
    exact k p hp
theorem right_mem {ts : List Tw} {t : Tw} (h : t ∈ rightOf ts) : t ∈ ts := by
  unfold rightOf at h
  split at h
  · exact List.mem_of_mem_take h
  · exact h
theorem right_len (ts : List Tw) : (rightOf ts).length ≤ ts.length := by
  unfold rightOf
  split
  · rw [List.length_take]; omega
  · exact Nat.le_refl _
theorem right_wrong (ts : List Tw) : wrong (rightOf ts) = none := wrong_none (rightOf_ok ts)
theorem wd_plain (o : Option Nat) : PyData.plain (wD o) = true := by cases o <;> rfl
theorem wd_depth (o : Option Nat) : PyData.depth (wD o) ≤ 64 := by cases o <;> exact Nat.zero_le _
section
variable {P : Program} {w : World} {K : PySem.W.Frag} {mg : Str → Option Value} {base : Heap}
theorem ok_tape (D : Df K mg "_law_tape" s_law_tape ["_law_script"]) (T : Txt K mg) : Cl P w K mg base 1 "_law_tape" (spTape K) := by
  refine D.ok sc_law_tape (fun vs H Q E h => ?_) (fun f cdv A outer s H vs Q E hr h => ?_)
  · obtain ⟨a, ns, rfl, _⟩ := h
    rfl
  obtain ⟨a, ns, rfl, hS, h63, k⟩ := h
  refine ⟨_, -- return {'cells': _law_script[:63], 'spot': 0, 'left': 0}
    (pss_one (ps_ret (pe_disp (pps_cons pe_str (pe_slice sl_list (pv 0) po_none (po_some pe_int)) (pps_cons pe_str pe_int (pps_cons pe_str pe_int pps_nil))) rfl rfl (by decide) (by decide)))), ?_⟩
  (intro t t0; generalize hh_ : upd _ t _ = H1; have ht := upd_is hh_; have s1 := same_is hh_ t0; clear hh_)
  refine ⟨_, rfl, _, rfl, a, _, rfl, s1.seq hS, ?_⟩
  (intro c c0; generalize hh_ : upd _ c _ = H2; have hc := upd_is hh_; have s2 := same_is hh_ c0; clear hh_)
  have ec : ∃ cs : List Int, cutV (ns.map V.int) none (some 63) = cs.map V.int ∧ cs.length ≤ 63 := by
    refine ⟨(ns.drop (HT.sIx ns.length 0 none)).take (HT.sIx ns.length ns.length (some 63) - HT.sIx ns.length 0 none), ?_, ?_⟩
    · unfold cutV
      rw [List.map_take, List.map_drop, List.length_map]
    · rw [List.length_take, List.length_drop]
      omega
  obtain ⟨cs, ec, lc⟩ := ec
  rw [ec] at hc
  refine ⟨s2 _ _ ht, [((Sum.inr ("cells" : Str) : Key), V.ref c), (Sum.inr ("spot" : Str), .int 0), (Sum.inr ("left" : Str), .int 0)], rfl, (by show 3 ≤ 15; decide), ?_⟩
  rw [tape_is]
  have tc : t ≠ c := ne_of (s2 _ _ ht) hc (by intro z; cases z)
  have tH := t0
  exact k t c _ ⟨cs, 0, 0, upd_same, by rw [upd_ne tc.symm]; exact hc, by decide, by decide, by decide, lc⟩ fun p o e => by
    rw [upd_ne (ne_of_none e tH)]
    exact s2 _ _ (s1 _ _ e)
theorem ok_law {f : Addr} {fd : FuncData} (F : Fun K "law" "law" slaw f fd) (T : Txt K mg) (c_law_tape : Cl P w K mg base 1 "_law_tape" (spTape K)) (c_law_draw : Cl P w K mg base 1 "_law_draw" spDraw) (c_law_rows : Cl P w K mg base 2 "_law_rows" (spRows K)) (c_law_bent : Cl P w K mg base 2 "_law_bent" (spBent K))
    (cfirst_wrong : Cl P w K mg base 4 "first_wrong" (spWrong K)) (c_law_due : Cl P w K mg base 1 "_law_due" (spWrong K)) (cstrokes_of : Cl P w K mg base 1 "strokes_of" (spStrokes K)) (c_law_strokes : Cl P w K mg base 1 "_law_strokes" (spStrokes K))
    (cis_touch : Cl P w K mg base 3 "is_touch" (spTouch K)) (c_law_is_touch : Cl P w K mg base 2 "_law_is_touch" (spTouchN K)) : FnOk P w K mg base CX0 5 f fd ["_law_script"] (spLaw K) := by
  refine F.ok sclaw (fun vs H Q E h => ?_) (fun cdv A outer s H vs Q E hr h => ?_)
  · obtain ⟨a, ns, rfl, _⟩ := h
    rfl
  obtain ⟨a, ns, rfl, hS, h63, k⟩ := h
  have hu := hu_of hr
  refine ⟨_, -- _law_tape_here = _law_tape(_law_script)
    (pss_cons (ps_set (i := 1) sclaw.nd rfl (Or.inl rfl) (pe_cl c_law_tape (hr.mono (by first | decide | omega)) rfl (pa_cons (pv 0) pa_nil)))
    (pss_cons (ps_for PassesOwn.never rfl (pi_range1 rfl T.m_range (pa_cons pe_int pa_nil)) (pg_name (i := 2) sclaw.nd rfl (Or.inl rfl))
      (pss_cons (ps_set (i := 3) sclaw.nd rfl (Or.inl rfl) (pe_cl c_law_rows (hr.mono (by first | decide | omega)) rfl (pa_cons (pv 1) (pa_cons (pe_cl c_law_draw (hr.mono (by first | decide | omega)) rfl (pa_cons (pv 1) (pa_cons (pe_ix ix_list (pe_lst (pa_cons pe_int (pa_cons pe_int pa_nil))) (pe_op op_mod (pv 2) pe_int) (fun _ _ => rfl)) pa_nil))) (pa_cons (pe_cmpR op_eq (pe_cl c_law_draw (hr.mono (by first | decide | omega)) rfl (pa_cons (pv 1) (pa_cons pe_int pa_nil))) pe_int (nomark _)) pa_nil)))))
      (pss_cons (ps_set (i := 4) sclaw.nd rfl (Or.inl rfl) (pe_callTy call_list_of rfl T.m_list (by decide +kernel) (pa_cons (pv 3) pa_nil)))
      (pss_cons (ps_if (PW.pt (pw_or (pt_cmpR (op_neP hr.units) (pe_cl cfirst_wrong (hr.mono (by first | decide | omega)) rfl (pa_cons (pv 3) pa_nil)) (pe_cl c_law_due (hr.mono (by first | decide | omega)) rfl (pa_cons (pv 4) pa_nil)) (nomark _)) (pw_or1 (pt_cmpR (op_neP hr.units) (pv 3) (pv 4) (nomark _)))))
        (pss_one (ps_ret pe_bl))
        pss_nil)
      (pss_cons (ps_set (i := 5) sclaw.nd rfl (Or.inl rfl) (pe_slice sl_list (pv 3) po_none (po_opt (pe_cl c_law_due (hr.mono (by first | decide | omega)) rfl (pa_cons (pv 3) pa_nil)))))
      (pss_cons (ps_set (i := 4) sclaw.nd rfl (Or.inl rfl) (pe_callTy call_list_of rfl T.m_list (by decide +kernel) (pa_cons (pv 5) pa_nil)))
      (pss_cons (ps_if (PW.pt (pw_or (pt_cmpR (op_neP hr.units) (pe_cl cstrokes_of (hr.mono (by first | decide | omega)) rfl (pa_cons (pv 5) pa_nil)) (pe_cl c_law_strokes (hr.mono (by first | decide | omega)) rfl (pa_cons (pv 4) pa_nil)) (nomark _)) (pw_or (pt_cmp (pc_notN (pe_cl cfirst_wrong (hr.mono (by first | decide | omega)) rfl (pa_cons (pv 5) pa_nil)))) (pw_or1 (pt_cmpR (op_neP hr.units) (pv 5) (pv 4) (nomark _))))))
        (pss_one (ps_ret pe_bl))
        pss_nil)
      (pss_cons (ps_set (i := 6) sclaw.nd rfl (Or.inl rfl) (pe_ix ix_list (pe_op op_cat (pv 3) (pe_lst (pa_cons (pe_tup (pa_cons pe_int (pa_cons pe_int (pa_cons pe_str (pa_cons pe_int (pa_cons pe_int pa_nil)))))) pa_nil))) pe_int (fun _ _ => rfl)))
      (pss_one (ps_for PassesOwn.never rfl (pi_list (pe_lst (pa_cons (pv 6) (pa_cons (pe_cl c_law_bent (hr.mono (by first | decide | omega)) rfl (pa_cons (pv 1) (pa_cons (pv 6) pa_nil))) (pa_cons (pe_tup (pa_cons (pe_op op_powG pe_int pe_int) (pa_cons pe_int (pa_cons pe_str (pa_cons (pe_un un_neg pe_int) (pa_cons pe_int pa_nil)))))) (pa_cons pe_non (pa_cons pe_int (pa_cons pe_str (pa_cons (pe_tup pa_nil) pa_nil))))))))) (pg_name (i := 7) sclaw.nd rfl (Or.inl rfl))
        (pss_cons (ps_set (i := 8) sclaw.nd rfl (Or.inl rfl) (pe_cl cis_touch (hr.mono (by first | decide | omega)) rfl (pa_cons (pv 7) pa_nil)))
        (pss_one (ps_if (PW.pt (pw_or (pt_not (pt_val (pe_callB call_isBool (by rfl) T.m_isinstance (by decide +kernel) (pa_cons (pv 8) (pa_cons (pe_bltn (v := .ty "bool") (u := .type "bool") (by rfl) T.m_bool (by decide +kernel) rfl) pa_nil))))) (pw_or1 (pt_cmpR op_ne (pv 8) (pe_cl c_law_is_touch (hr.mono (by first | decide | omega)) rfl (pa_cons (pv 7) pa_nil)) (nomark _)))))
          (pss_one (ps_ret pe_bl))
          pss_nil)))))))))))))
    (pss_one (ps_ret pe_bl)))), ?_⟩
  refine ⟨_, rfl, a, ns, rfl, hS, h63, fun t c H1 T1 s1 => ?_⟩
  refine ⟨4, rfl, by decide, by decide, for_range (n := 4) (fun i σ Hx => ∃ (ks : List (Option V)), σ = some (.ref a) :: some (.ref t) :: ks ∧ ks.length = 7 ∧ TapeAt Hx t c (2000 * i)) ⟨_, rfl, rfl, T1⟩ ?_ ?_⟩
  · rintro i σ Hx hi ⟨ks, rfl, lks, Tx⟩
    match ks, lks with
    | [k2, k3, k4, k5, k6, k7, k8], _ =>
    clear hS s1 T1
    refine ⟨_, rfl, _, rfl, (by show 2 ≤ sizeLine; decide), ?_⟩
    (intro l1 l10; generalize hh_ : upd _ l1 _ = H1; have hl1 := upd_is hh_; have s1 := same_is hh_ l10; clear hh_)
    obtain ⟨mv, hmv, em⟩ := at_in (xs := [V.int 9, .int 41]) (i := (0 + (i : Int)) % 2) (Int.emod_nonneg _ (by decide)) (by show _ < (2 : Int); exact Int.emod_lt_of_pos _ (by decide))
    obtain ⟨m, rfl, hm⟩ : ∃ m : Nat, mv = .int m ∧ (1 ≤ m ∧ m ≤ 41) := by
      simp only [List.mem_cons, List.not_mem_nil, or_false] at hmv
      rcases hmv with rfl | rfl
      · exact ⟨9, rfl, by decide, by decide⟩
      · exact ⟨41, rfl, by decide, by decide⟩
    refine ⟨_, rfl, _, _, rfl, rfl, (by show (0 : Int) < 2; decide), l1, _, _, _, rfl, rfl, SqL.of hl1, em, t, c, m, _, rfl, Tx.same s1, ⟨by omega, by omega⟩, by omega, fun r2 H2 hr2 T2 f2 => ?_⟩
    refine ⟨_, rfl, t, c, 2, _, rfl, T2, ⟨by decide, by decide⟩, by omega, fun r3 H3 hr3 T3 f3 => ?_⟩
    obtain ⟨mm, rfl⟩ : ∃ mm : Nat, r2 = (mm : Int) := ⟨r2.toNat, by omega⟩
    refine ⟨rfl, t, c, mm, _, _, rfl, T3, by omega, by omega, fun l4 ts H4 l40 hl4 hts h50 T4 f4 => ?_⟩
    have w4 : Tws K H4 l4 ts := ⟨SqL.of hl4, hts, by omega⟩
    refine ⟨_, rfl, l4, _, rfl, .inl (SqL.of hl4), ?_⟩
    (intro l5 l50; generalize hh_ : upd _ l5 _ = H5; have hl5 := upd_is hh_; have s5 := same_is hh_ l50; clear hh_)
    refine ⟨_, rfl, l4, ts, rfl, w4.same s5, fun H6 s6 => ?_⟩
    have s56 := s5.trans s6
    refine ⟨_, rfl, l5, ts, rfl, ⟨SqL.of (s6 _ _ hl5), (w4.same s56).2.1, by omega⟩, fun H7 s7 => ?_⟩
    have s57 := s56.trans s7
    have pl := wd_plain (wrong ts)
    refine ⟨_, _, wV_dp _, wV_dp _, pl, pl, by rw [Nat.min_self]; exact wd_depth _, _, rfl, ?_⟩
    rw [SeqAt.eqv_refl_plain _ pl]
    refine iteF ?_
    have w7 := w4.same s57
    refine ⟨_, rfl, _, rfl, list_eq w7.1 (SqL.of ((s6.trans s7) _ _ hl5)) (fun t ht => (w7.2.1 t ht).1) ?_⟩
    refine ⟨_, rfl, iteF ?_⟩
    refine ⟨_, rfl, ?_⟩
    dsimp only [tNoPart]
    refine ⟨_, rfl, l4, ts, rfl, w7, fun H8 s8 => ?_⟩
    have w8 := w7.same s8
    refine part_w w8.1 ?_
    (intro l9 l90; generalize hh_ : upd _ l9 _ = H9; have hl9 := upd_is hh_; have s9 := same_is hh_ l90; clear hh_)
    have w9 : Tws K H9 l9 (rightOf ts) := ⟨SqL.of hl9, fun t ht => (w8.same s9).2.1 t (right_mem ht), Nat.le_trans (right_len ts) (by omega)⟩
    refine ⟨_, rfl, l9, _, rfl, .inl (SqL.of hl9), ?_⟩
    (intro la la0; generalize hh_ : upd _ la _ = Ha; have hla := upd_is hh_; have sa := same_is hh_ la0; clear hh_)
    have wa := w9.same sa
    have rok := rightOf_ok ts
    have rnone := right_wrong ts
    refine ⟨_, rfl, l9, _, rfl, wa, rok, fun pb zs Hb sb hpb hzs ezs => ?_⟩
    refine ⟨_, rfl, la, _, rfl, ⟨SqL.of (sb _ _ hla), (wa.same sb).2.1, wa.2.2⟩, rok, fun pc ys Hc scc hpc hys eys => ?_⟩
    have wc := (wa.same sb).same scc
    have tc : ∀ {zs : List (Addr × List Tw)}, zs.map Prod.snd = strokesS (rightOf ts) → ∀ z ∈ zs, ∀ t ∈ z.2, TwAt Hc t := fun {zs} e z hz t ht => (wc.2.1 t (stroke_mem (by rw [← e]; exact List.mem_map.mpr ⟨z, hz, rfl⟩) ht)).1
    have d1 : Dp K Hc (.ref pb) (.list (csD (strokesS (rightOf ts)))) := .lst (SqL.of (scc _ _ hpb)) (by rw [← ezs]; exact strs_dp (fun z hz => scc _ _ (hzs z hz)) (tc ezs))
    have d2 : Dp K Hc (.ref pc) (.list (csD (strokesS (rightOf ts)))) := .lst (SqL.of hpc) (by rw [← eys]; exact strs_dp hys (tc eys))
    have pl2 : PyData.plain (.list (csD (strokesS (rightOf ts)))) = true := csD_plain _
    have dp2 : PyData.depth (.list (csD (strokesS (rightOf ts)))) ≤ 64 := by
      show PyData.depthAll _ + 1 ≤ 64
      have := csD_depth (strokesS (rightOf ts))
      omega
    refine ⟨_, _, d1, d2, pl2, pl2, by rw [Nat.min_self]; exact dp2, _, rfl, ?_⟩
    rw [SeqAt.eqv_refl_plain _ pl2]
    refine iteF ?_
    refine ⟨_, rfl, l9, _, rfl, wc, fun Hd sd => ?_⟩
    rw [rnone]
    refine ⟨_, rfl, ite2 (fun p => absurd p (by simp [wV])) fun _ => ?_⟩
    have wd := wc.same sd
    refine ⟨_, rfl, _, rfl, list_eq wd.1 (SqL.of ((sb.trans (scc.trans sd)) _ _ hla)) (fun t ht => (wd.2.1 t ht).1) ?_⟩
    refine ⟨_, rfl, iteF ?_⟩
    have s8d := s9.trans (sa.trans (sb.trans (scc.trans sd)))
    have w4d := w8.same s8d
    have s4d := s57.trans (s8.trans s8d)
    have T4d := T4.same s4d
    have hl4d := s4d _ _ hl4
    have l4t := T4.ne_lst hl4
    clear d1 d2 wd wc wa w9 w8 w7 w4 hpb hpc hzs hys ezs eys tc sb scc sd sa s9 s8 s7 s6 s5 s56 s57 s8d hla hl9 hl5 hl4 hts T4 f4 T3 f3 T2 f2 s1 hl1
    refine ⟨_, rfl, (by show 5 ≤ sizeLine; decide), ?_⟩
    (intro pt pt0; generalize hh_ : upd _ pt _ = H1; have hpt := upd_is hh_; have s1 := same_is hh_ pt0; clear hh_)
    refine ⟨(by show 1 ≤ sizeLine; decide), ?_⟩
    (intro l2 l20; generalize hh_ : upd _ l2 _ = H2; have hl2 := upd_is hh_; have s2 := same_is hh_ l20; clear hh_)
    refine ⟨l4, l2, _, _, rfl, rfl, (s1.trans s2) _ _ hl4d, hl2, sl1000 (by rw [List.length_map]; show _ + 1 ≤ _; omega), ?_⟩
    (intro l3 l30; generalize hh_ : upd _ l3 _ = H3; have hl3 := upd_is hh_; have s3 := same_is hh_ l30; clear hh_)
    have s13 := s1.trans (s2.trans s3)
    have T3 := T4d.same s13
    have hl3 : H3 l3 = some (.lst ((ts ++ [(⟨pt, 0, 0, sDown, 0, 0⟩ : Tw)]).map fun t => V.ref t.a)) := by
      rw [hl3, List.map_append]
      rfl
    have us3 : ∀ u ∈ ts ++ [(⟨pt, 0, 0, sDown, 0, 0⟩ : Tw)], TwAt H3 u ∧ TwB u := fun u hu => by
      rcases List.mem_append.mp hu with hu | hu
      · exact (w4d.same s13).2.1 u hu
      · rw [List.mem_singleton.mp hu]
        refine ⟨(s2.trans s3) _ _ hpt, ⟨(by show (0 : Int) ≤ 0; decide), (by show (0 : Int) ≤ 1000000000; decide)⟩, ⟨(by show (0 : Int) ≤ 0; decide), (by show (0 : Int) ≤ 9; decide)⟩, .inl rfl, ⟨(by show (-10000 : Int) ≤ 0; decide), (by show (0 : Int) ≤ 10000; decide)⟩, ⟨(by show (-10000 : Int) ≤ 0; decide), (by show (0 : Int) ≤ 10000; decide)⟩⟩
    obtain ⟨u, us, eu⟩ : ∃ u us, ts ++ [(⟨pt, 0, 0, sDown, 0, 0⟩ : Tw)] = u :: us := by
      cases ts with
      | nil => exact ⟨_, _, rfl⟩
      | cons x r => exact ⟨_, _, rfl⟩
    rw [eu] at hl3 us3
    obtain ⟨hu3, ub⟩ := us3 u List.mem_cons_self
    refine ⟨l3, _, 0, _, rfl, rfl, SqL.of hl3, atI_nat (j := 0) rfl, ?_⟩
    refine ⟨_, rfl, _, rfl, _, rfl, t, c, _, u, rfl, T3, by omega, hu3, ub, fun v d H4 hd T4 f4 => ?_⟩
    refine ⟨_, _, rfl, rfl, ⟨by decide, by decide +kernel⟩, _, rfl, (by show 5 ≤ sizeLine; decide), ?_⟩
    (intro p5 p50; generalize hh_ : upd _ p5 _ = H5; have hp5 := upd_is hh_; have s5 := same_is hh_ p50; clear hh_)
    refine ⟨(by show 0 ≤ sizeLine; decide), ?_⟩
    (intro p6 p60; generalize hh_ : upd _ p6 _ = H6; have hp6 := upd_is hh_; have s6 := same_is hh_ p60; clear hh_)
    refine ⟨(by show 7 ≤ sizeLine; decide), ?_⟩
    (intro l7 l70; generalize hh_ : upd _ l7 _ = H7; have hl7 := upd_is hh_; have s7 := same_is hh_ l70; clear hh_)
    have s47 := s5.trans (s6.trans s7)
    have hu7 : TwAt H7 u := s47 _ _ (f4 _ _ hu3 (not_in_one (T3.ne_tup hu3)))
    have all7 : ∀ x ∈ [V.ref u.a, v, .ref p5, .non, .int 7, .str "touch", .ref p6], ∃ d, Dp K H7 x d := by
      intro x hx
      simp only [List.mem_cons, List.not_mem_nil, or_false] at hx
      rcases hx with rfl | rfl | rfl | rfl | rfl | rfl | rfl
      · exact ⟨_, hu7.dp⟩
      · exact ⟨_, Dp.same s47 hd⟩
      · exact ⟨_, .tup (SqT.of ((s6.trans s7) _ _ hp5)) (.cons (.int _) (.cons (.int _) (.cons (.str _) (.cons (.int _) (.cons (.int _) .nil)))))⟩
      · exact ⟨_, .non⟩
      · exact ⟨_, .int _⟩
      · exact ⟨_, .str _⟩
      · exact ⟨_, .tup (SqT.of (s7 _ _ hp6)) .nil⟩
    have T7 := T4.same s47
    dsimp only at hl7
    refine ⟨l7, rfl, ⟨_, SqL.of hl7⟩, for_list (K := K) (a := l7) (xs := [V.ref u.a, v, .ref p5, .non, .int 7, .str "touch", .ref p6]) (fun j σ Hy => ∃ (k7 k8 : Option V), σ = [some (.ref a), some (.ref t), some (.int (0 + (i : Int))), some (.ref l4), some (.ref la), some (.ref l9), some (.ref u.a), k7, k8] ∧ Same H7 Hy) ⟨_, _, rfl, Same.refl _⟩ (fun j σ Hy _ ⟨_, _, _, sy⟩ => SqL.of (sy _ _ hl7)) ?_ ?_⟩
    · rintro j x σ Hy hj ⟨k7, k8, rfl, sy⟩
      obtain ⟨d, hd⟩ := all7 x (List.mem_of_getElem? hj)
      have hdy := Dp.same sy hd
      refine ⟨_, rfl, x, d, rfl, hdy, ?_⟩
      refine ⟨_, rfl, _, _, rfl, .bl _, _, rfl, iteF ?_⟩
      refine ⟨_, rfl, _, rfl, x, d, rfl, hdy, fun Hz sz => ?_⟩
      refine ⟨rfl, _, rfl, ite2 (fun p => absurd p (by simp)) fun _ => ?_⟩
      exact ⟨_, _, rfl, sy.trans sz⟩
    · rintro σ Hy ⟨k7, k8, rfl, sy⟩
      exact ⟨_, rfl, rfl, (T7.same sy).mono (by omega)⟩
  · rintro σ Hx ⟨ks, rfl, lks, Tx⟩
    exact k Hx
end
end SG
namespace SG
open PySem PySem.Spec PyProof.Rows L2
theorem all_mk {l : PySem.W.OpenLaw} {w : World} {K : PySem.W.Frag} {h : Heap} {mg : Str → Option Value} {fa f1 f2 f3 f4 f5 f6 f7 f8 f9 f10 f11 f12 f13 f14 f15 f16 : Addr} (X : K.In h) (G : h.Ns mainGlobals mg) (hfa : mg "law" = some (.ref fa)) {od1 an1 od2 an2 od3 an3 od4 an4 od5 an5 od6 an6 od7 an7 od8 an8 od9 an9 od10 an10 od11 an11 od12 an12 od13 an13 od14 an14 od15 an15 od16 an16 : Option Addr} {sl1 sl2 sl3 sl4 sl5 sl6 sl7 sl8 sl9 sl10 sl11 sl12 sl13 sl14 sl15 sl16 : Array (Option Value)} {oc1 kV1 dc1 pm1 cd1 ct1 oc2 kV2 dc2 pm2 cd2 ct2 oc3 kV3 dc3 pm3 cd3 ct3 oc4 kV4 dc4 pm4 cd4 ct4 oc5 kV5 dc5 pm5 cd5 ct5 oc6 kV6 dc6 pm6 cd6 ct6 oc7 kV7 dc7 pm7 cd7 ct7 oc8 kV8 dc8 pm8 cd8 ct8 oc9 kV9 dc9 pm9 cd9 ct9 oc10 kV10 dc10 pm10 cd10 ct10 oc11 kV11 dc11 pm11 cd11 ct11 oc12 kV12 dc12 pm12 cd12 ct12 oc13 kV13 dc13 pm13 cd13 ct13 oc14 kV14 dc14 pm14 cd14 ct14 oc15 kV15 dc15 pm15 cd15 ct15 oc16 kV16 dc16 pm16 cd16 ct16 : Value} {aTOUCH_WORDS : Addr} {dTOUCH_WORDS : Option Addr} {nTOUCH_WORDS : Nat} {sTOUCH_WORDS : Array (Option Value)} {uTOUCH_WORDS0 uTOUCH_WORDS1 uTOUCH_WORDS2 uTOUCH_WORDS3 : Tok} {aOVER_WORDS : Addr} {dOVER_WORDS : Option Addr} {nOVER_WORDS : Nat} {sOVER_WORDS : Array (Option Value)} {uOVER_WORDS0 uOVER_WORDS1 : Tok} {tFARTHEST tLAST_MOMENT tLAST_FINGER : Tok}
    (a1 : PySem.W.nsIn K mainGlobals "is_between" = some (some (.ref f1)))
    (l1 : K.lookup f1 = some ⟨oc1, od1, .func (PySem.W.fnOf "is_between" "is_between" (defArgs sis_between) (defBody sis_between) (defScope sis_between) .none kV1 dc1 pm1 an1 cd1 ct1), sl1⟩)
    (c1 : PySem.W.codeIn K cd1 "is_between" = true)
    (k1 : PySem.W.keepIn K (.ref f1) = true)
    (a2 : PySem.W.nsIn K mainGlobals "is_coordinate" = some (some (.ref f2)))
    (l2 : K.lookup f2 = some ⟨oc2, od2, .func (PySem.W.fnOf "is_coordinate" "is_coordinate" (defArgs sis_coordinate) (defBody sis_coordinate) (defScope sis_coordinate) .none kV2 dc2 pm2 an2 cd2 ct2), sl2⟩)
    (c2 : PySem.W.codeIn K cd2 "is_coordinate" = true)
    (k2 : PySem.W.keepIn K (.ref f2) = true)
    (a3 : PySem.W.nsIn K mainGlobals "is_row" = some (some (.ref f3)))
    (l3 : K.lookup f3 = some ⟨oc3, od3, .func (PySem.W.fnOf "is_row" "is_row" (defArgs sis_row) (defBody sis_row) (defScope sis_row) .none kV3 dc3 pm3 an3 cd3 ct3), sl3⟩)
    (c3 : PySem.W.codeIn K cd3 "is_row" = true)
    (k3 : PySem.W.keepIn K (.ref f3) = true)
    (a4 : PySem.W.nsIn K mainGlobals "is_moment" = some (some (.ref f4)))
    (l4 : K.lookup f4 = some ⟨oc4, od4, .func (PySem.W.fnOf "is_moment" "is_moment" (defArgs sis_moment) (defBody sis_moment) (defScope sis_moment) .none kV4 dc4 pm4 an4 cd4 ct4), sl4⟩)
    (c4 : PySem.W.codeIn K cd4 "is_moment" = true)
    (k4 : PySem.W.keepIn K (.ref f4) = true)
    (a5 : PySem.W.nsIn K mainGlobals "is_touch" = some (some (.ref f5)))
    (l5 : K.lookup f5 = some ⟨oc5, od5, .func (PySem.W.fnOf "is_touch" "is_touch" (defArgs sis_touch) (defBody sis_touch) (defScope sis_touch) .none kV5 dc5 pm5 an5 cd5 ct5), sl5⟩)
    (c5 : PySem.W.codeIn K cd5 "is_touch" = true)
    (k5 : PySem.W.keepIn K (.ref f5) = true)
    (a6 : PySem.W.nsIn K mainGlobals "first_wrong" = some (some (.ref f6)))
    (l6 : K.lookup f6 = some ⟨oc6, od6, .func (PySem.W.fnOf "first_wrong" "first_wrong" (defArgs sfirst_wrong) (defBody sfirst_wrong) (defScope sfirst_wrong) .none kV6 dc6 pm6 an6 cd6 ct6), sl6⟩)
    (c6 : PySem.W.codeIn K cd6 "first_wrong" = true)
    (k6 : PySem.W.keepIn K (.ref f6) = true)
    (a7 : PySem.W.nsIn K mainGlobals "strokes_of" = some (some (.ref f7)))
    (l7 : K.lookup f7 = some ⟨oc7, od7, .func (PySem.W.fnOf "strokes_of" "strokes_of" (defArgs sstrokes_of) (defBody sstrokes_of) (defScope sstrokes_of) .none kV7 dc7 pm7 an7 cd7 ct7), sl7⟩)
    (c7 : PySem.W.codeIn K cd7 "strokes_of" = true)
    (k7 : PySem.W.keepIn K (.ref f7) = true)
    (a8 : PySem.W.nsIn K mainGlobals "_law_tape" = some (some (.ref f8)))
    (l8 : K.lookup f8 = some ⟨oc8, od8, .func (PySem.W.fnOf "_law_tape" "_law_tape" (defArgs s_law_tape) (defBody s_law_tape) (defScope s_law_tape) .none kV8 dc8 pm8 an8 cd8 ct8), sl8⟩)
    (c8 : PySem.W.codeIn K cd8 "_law_tape" = true)
    (k8 : PySem.W.keepIn K (.ref f8) = true)
    (a9 : PySem.W.nsIn K mainGlobals "_law_draw" = some (some (.ref f9)))
    (l9 : K.lookup f9 = some ⟨oc9, od9, .func (PySem.W.fnOf "_law_draw" "_law_draw" (defArgs s_law_draw) (defBody s_law_draw) (defScope s_law_draw) .none kV9 dc9 pm9 an9 cd9 ct9), sl9⟩)
    (c9 : PySem.W.codeIn K cd9 "_law_draw" = true)
    (k9 : PySem.W.keepIn K (.ref f9) = true)
    (a10 : PySem.W.nsIn K mainGlobals "_law_whole" = some (some (.ref f10)))
    (l10 : K.lookup f10 = some ⟨oc10, od10, .func (PySem.W.fnOf "_law_whole" "_law_whole" (defArgs s_law_whole) (defBody s_law_whole) (defScope s_law_whole) .none kV10 dc10 pm10 an10 cd10 ct10), sl10⟩)
    (c10 : PySem.W.codeIn K cd10 "_law_whole" = true)
    (k10 : PySem.W.keepIn K (.ref f10) = true)
    (a11 : PySem.W.nsIn K mainGlobals "_law_is_touch" = some (some (.ref f11)))
    (l11 : K.lookup f11 = some ⟨oc11, od11, .func (PySem.W.fnOf "_law_is_touch" "_law_is_touch" (defArgs s_law_is_touch) (defBody s_law_is_touch) (defScope s_law_is_touch) .none kV11 dc11 pm11 an11 cd11 ct11), sl11⟩)
    (c11 : PySem.W.codeIn K cd11 "_law_is_touch" = true)
    (k11 : PySem.W.keepIn K (.ref f11) = true)
    (a12 : PySem.W.nsIn K mainGlobals "_law_bent" = some (some (.ref f12)))
    (l12 : K.lookup f12 = some ⟨oc12, od12, .func (PySem.W.fnOf "_law_bent" "_law_bent" (defArgs s_law_bent) (defBody s_law_bent) (defScope s_law_bent) .none kV12 dc12 pm12 an12 cd12 ct12), sl12⟩)
    (c12 : PySem.W.codeIn K cd12 "_law_bent" = true)
    (k12 : PySem.W.keepIn K (.ref f12) = true)
    (a13 : PySem.W.nsIn K mainGlobals "_law_rows" = some (some (.ref f13)))
    (l13 : K.lookup f13 = some ⟨oc13, od13, .func (PySem.W.fnOf "_law_rows" "_law_rows" (defArgs s_law_rows) (defBody s_law_rows) (defScope s_law_rows) .none kV13 dc13 pm13 an13 cd13 ct13), sl13⟩)
    (c13 : PySem.W.codeIn K cd13 "_law_rows" = true)
    (k13 : PySem.W.keepIn K (.ref f13) = true)
    (a14 : PySem.W.nsIn K mainGlobals "_law_due" = some (some (.ref f14)))
    (l14 : K.lookup f14 = some ⟨oc14, od14, .func (PySem.W.fnOf "_law_due" "_law_due" (defArgs s_law_due) (defBody s_law_due) (defScope s_law_due) .none kV14 dc14 pm14 an14 cd14 ct14), sl14⟩)
    (c14 : PySem.W.codeIn K cd14 "_law_due" = true)
    (k14 : PySem.W.keepIn K (.ref f14) = true)
    (a15 : PySem.W.nsIn K mainGlobals "_law_strokes" = some (some (.ref f15)))
    (l15 : K.lookup f15 = some ⟨oc15, od15, .func (PySem.W.fnOf "_law_strokes" "_law_strokes" (defArgs s_law_strokes) (defBody s_law_strokes) (defScope s_law_strokes) .none kV15 dc15 pm15 an15 cd15 ct15), sl15⟩)
    (c15 : PySem.W.codeIn K cd15 "_law_strokes" = true)
    (k15 : PySem.W.keepIn K (.ref f15) = true)
    (a16 : PySem.W.nsIn K mainGlobals "law" = some (some (.ref f16)))
    (l16 : K.lookup f16 = some ⟨oc16, od16, .func (PySem.W.fnOf "law" "law" (defArgs slaw) (defBody slaw) (defScope slaw) .none kV16 dc16 pm16 an16 cd16 ct16), sl16⟩)
    (c16 : PySem.W.codeIn K cd16 "law" = true)
    (k16 : PySem.W.keepIn K (.ref f16) = true)
    (zbool : PySem.W.nsIn K mainGlobals "bool" = some none)
    (zenumerate : PySem.W.nsIn K mainGlobals "enumerate" = some none)
    (zint : PySem.W.nsIn K mainGlobals "int" = some none)
    (zisinstance : PySem.W.nsIn K mainGlobals "isinstance" = some none)
    (zlen : PySem.W.nsIn K mainGlobals "len" = some none)
    (zlist : PySem.W.nsIn K mainGlobals "list" = some none)
    (zmax : PySem.W.nsIn K mainGlobals "max" = some none)
    (zrange : PySem.W.nsIn K mainGlobals "range" = some none)
    (zset : PySem.W.nsIn K mainGlobals "set" = some none)
    (zstr : PySem.W.nsIn K mainGlobals "str" = some none)
    (ztuple : PySem.W.nsIn K mainGlobals "tuple" = some none)
    (yFARTHEST : PySem.W.nsIn K mainGlobals "FARTHEST" = some (some (.int 10000 tFARTHEST)))
    (yLAST_MOMENT : PySem.W.nsIn K mainGlobals "LAST_MOMENT" = some (some (.int 1000000000 tLAST_MOMENT)))
    (yLAST_FINGER : PySem.W.nsIn K mainGlobals "LAST_FINGER" = some (some (.int 9 tLAST_FINGER)))
    (yTOUCH_WORDS : PySem.W.nsIn K mainGlobals "TOUCH_WORDS" = some (some (.ref aTOUCH_WORDS)))
    (xTOUCH_WORDS : K.lookup aTOUCH_WORDS = some ⟨.type "tuple", dTOUCH_WORDS, .seq #[.str "down" uTOUCH_WORDS0, .str "move" uTOUCH_WORDS1, .str "up" uTOUCH_WORDS2, .str "lost" uTOUCH_WORDS3] nTOUCH_WORDS, sTOUCH_WORDS⟩)
    (yOVER_WORDS : PySem.W.nsIn K mainGlobals "OVER_WORDS" = some (some (.ref aOVER_WORDS)))
    (xOVER_WORDS : K.lookup aOVER_WORDS = some ⟨.type "tuple", dOVER_WORDS, .seq #[.str "up" uOVER_WORDS0, .str "lost" uOVER_WORDS1] nOVER_WORDS, sOVER_WORDS⟩)
    : ∃ fd : FuncData, (∀ (s : Shared) (v : Value), BindsTo s fd ⟨[v], []⟩ [("_law_script", v)]) ∧ ∀ base : Heap, K.In base → base.Ns mainGlobals mg → FnOk l.prog w K mg base CX0 5 fa fd ["_law_script"] (spLaw K) := by
  have e := hfa.symm.trans (PySem.W.mg_of X G a16)
  cases e
  have T : Txt K mg := ⟨PySem.W.mg_none_of X G zbool, PySem.W.mg_none_of X G zenumerate, PySem.W.mg_none_of X G zint, PySem.W.mg_none_of X G zisinstance, PySem.W.mg_none_of X G zlen, PySem.W.mg_none_of X G zlist, PySem.W.mg_none_of X G zmax, PySem.W.mg_none_of X G zrange, PySem.W.mg_none_of X G zset, PySem.W.mg_none_of X G zstr, PySem.W.mg_none_of X G ztuple, ⟨_, PySem.W.mg_of X G yFARTHEST⟩, ⟨_, PySem.W.mg_of X G yLAST_MOMENT⟩, ⟨_, PySem.W.mg_of X G yLAST_FINGER⟩, ⟨_, PySem.W.mg_of X G yTOUCH_WORDS, fun _ => .inr ⟨_, _, _, xTOUCH_WORDS, rfl, rfl, by show 4 ≤ sizeLine; decide, (.cons ⟨_, rfl⟩ (.cons ⟨_, rfl⟩ (.cons ⟨_, rfl⟩ (.cons ⟨_, rfl⟩ .nil))))⟩⟩, ⟨_, PySem.W.mg_of X G yOVER_WORDS, fun _ => .inr ⟨_, _, _, xOVER_WORDS, rfl, rfl, by show 2 ≤ sizeLine; decide, (.cons ⟨_, rfl⟩ (.cons ⟨_, rfl⟩ .nil))⟩⟩⟩
  have F1 := fun_mk (st := sis_between) l1 c1 k1
  have Dis_between : Df K mg "is_between" sis_between ["thing", "least", "most"] := ⟨⟨_, _, F1, PySem.W.mg_of X G a1, F1.binds (ps := ["thing", "least", "most"]) fun _ _ _ _ _ _ us hl => match us, hl with | [_, _, _], _ => rfl⟩⟩
  have F2 := fun_mk (st := sis_coordinate) l2 c2 k2
  have Dis_coordinate : Df K mg "is_coordinate" sis_coordinate ["thing"] := ⟨⟨_, _, F2, PySem.W.mg_of X G a2, F2.binds (ps := ["thing"]) fun _ _ _ _ _ _ us hl => match us, hl with | [_], _ => rfl⟩⟩
  have F3 := fun_mk (st := sis_row) l3 c3 k3
  have Dis_row : Df K mg "is_row" sis_row ["thing", "many"] := ⟨⟨_, _, F3, PySem.W.mg_of X G a3, F3.binds (ps := ["thing", "many"]) fun _ _ _ _ _ _ us hl => match us, hl with | [_, _], _ => rfl⟩⟩
  have F4 := fun_mk (st := sis_moment) l4 c4 k4
  have Dis_moment : Df K mg "is_moment" sis_moment ["thing"] := ⟨⟨_, _, F4, PySem.W.mg_of X G a4, F4.binds (ps := ["thing"]) fun _ _ _ _ _ _ us hl => match us, hl with | [_], _ => rfl⟩⟩
  have F5 := fun_mk (st := sis_touch) l5 c5 k5
  have Dis_touch : Df K mg "is_touch" sis_touch ["thing"] := ⟨⟨_, _, F5, PySem.W.mg_of X G a5, F5.binds (ps := ["thing"]) fun _ _ _ _ _ _ us hl => match us, hl with | [_], _ => rfl⟩⟩
  have F6 := fun_mk (st := sfirst_wrong) l6 c6 k6
  have Dfirst_wrong : Df K mg "first_wrong" sfirst_wrong ["touches"] := ⟨⟨_, _, F6, PySem.W.mg_of X G a6, F6.binds (ps := ["touches"]) fun _ _ _ _ _ _ us hl => match us, hl with | [_], _ => rfl⟩⟩
  have F7 := fun_mk (st := sstrokes_of) l7 c7 k7
  have Dstrokes_of : Df K mg "strokes_of" sstrokes_of ["touches"] := ⟨⟨_, _, F7, PySem.W.mg_of X G a7, F7.binds (ps := ["touches"]) fun _ _ _ _ _ _ us hl => match us, hl with | [_], _ => rfl⟩⟩
  have F8 := fun_mk (st := s_law_tape) l8 c8 k8
  have D_law_tape : Df K mg "_law_tape" s_law_tape ["_law_script"] := ⟨⟨_, _, F8, PySem.W.mg_of X G a8, F8.binds (ps := ["_law_script"]) fun _ _ _ _ _ _ us hl => match us, hl with | [_], _ => rfl⟩⟩
  have F9 := fun_mk (st := s_law_draw) l9 c9 k9
  have D_law_draw : Df K mg "_law_draw" s_law_draw ["_law_tape_here", "_law_many"] := ⟨⟨_, _, F9, PySem.W.mg_of X G a9, F9.binds (ps := ["_law_tape_here", "_law_many"]) fun _ _ _ _ _ _ us hl => match us, hl with | [_, _], _ => rfl⟩⟩
  have F10 := fun_mk (st := s_law_whole) l10 c10 k10
  have D_law_whole : Df K mg "_law_whole" s_law_whole ["_law_thing", "_law_least", "_law_most"] := ⟨⟨_, _, F10, PySem.W.mg_of X G a10, F10.binds (ps := ["_law_thing", "_law_least", "_law_most"]) fun _ _ _ _ _ _ us hl => match us, hl with | [_, _, _], _ => rfl⟩⟩
  have F11 := fun_mk (st := s_law_is_touch) l11 c11 k11
  have D_law_is_touch : Df K mg "_law_is_touch" s_law_is_touch ["_law_thing"] := ⟨⟨_, _, F11, PySem.W.mg_of X G a11, F11.binds (ps := ["_law_thing"]) fun _ _ _ _ _ _ us hl => match us, hl with | [_], _ => rfl⟩⟩
  have F12 := fun_mk (st := s_law_bent) l12 c12 k12
  have D_law_bent : Df K mg "_law_bent" s_law_bent ["_law_tape_here", "_law_touch"] := ⟨⟨_, _, F12, PySem.W.mg_of X G a12, F12.binds (ps := ["_law_tape_here", "_law_touch"]) fun _ _ _ _ _ _ us hl => match us, hl with | [_, _], _ => rfl⟩⟩
  have F13 := fun_mk (st := s_law_rows) l13 c13 k13
  have D_law_rows : Df K mg "_law_rows" s_law_rows ["_law_tape_here", "_law_many", "_law_strict"] := ⟨⟨_, _, F13, PySem.W.mg_of X G a13, F13.binds (ps := ["_law_tape_here", "_law_many", "_law_strict"]) fun _ _ _ _ _ _ us hl => match us, hl with | [_, _, _], _ => rfl⟩⟩
  have F14 := fun_mk (st := s_law_due) l14 c14 k14
  have D_law_due : Df K mg "_law_due" s_law_due ["_law_touches"] := ⟨⟨_, _, F14, PySem.W.mg_of X G a14, F14.binds (ps := ["_law_touches"]) fun _ _ _ _ _ _ us hl => match us, hl with | [_], _ => rfl⟩⟩
  have F15 := fun_mk (st := s_law_strokes) l15 c15 k15
  have D_law_strokes : Df K mg "_law_strokes" s_law_strokes ["_law_touches"] := ⟨⟨_, _, F15, PySem.W.mg_of X G a15, F15.binds (ps := ["_law_touches"]) fun _ _ _ _ _ _ us hl => match us, hl with | [_], _ => rfl⟩⟩
  have F16 := fun_mk (st := slaw) l16 c16 k16
  refine ⟨PySem.W.fnOf "law" "law" (defArgs slaw) (defBody slaw) (defScope slaw) .none kV16 dc16 pm16 an16 cd16 ct16, fun s v => .of_eq rfl, fun base _ _ => ?_⟩
  have Flaw := F16
  have draw := ok_draw (P := l.prog) (w := w) (base := base) D_law_draw T
  have bet := ok_between (P := l.prog) (w := w) (base := base) Dis_between T
  have row := ok_row (P := l.prog) (w := w) (base := base) Dis_row T
  have whole := ok_whole (P := l.prog) (w := w) (base := base) D_law_whole T
  have touch := ok_touch Dis_touch T row bet (ok_coord Dis_coordinate T bet) (ok_moment Dis_moment T bet)
  exact ok_law Flaw T (ok_tape D_law_tape T) draw (ok_rows D_law_rows T draw) (ok_bent D_law_bent T draw) (ok_wrong Dfirst_wrong T touch) (ok_due D_law_due T) (ok_strokes Dstrokes_of T) (ok_own_strokes D_law_strokes T) touch (ok_own D_law_is_touch T whole)
theorem walk {l : PySem.W.OpenLaw} {q : Program} {loose : List Str} {XP : (Str → Option Value) → Heap → Prop} {YP : World → Heap → Prop} {d : DefRec} {K : Params → PySem.W.Frag} (hn : l.most = some 63) (hdf : d.params.defaults = [])
    (hY : ∀ (w : World) (h : Heap), YP w h → (K w.params).In h)
    (F : ∀ (w : World) (mg : Str → Option Value) (fa : Addr) (h : Heap), (K w.params).In h → h.Ns mainGlobals mg → mg d.name = some (.ref fa) →
      ∃ fd : FuncData, (∀ (s : Shared) (u : Value), BindsTo s fd ⟨[u], []⟩ [("_law_script", u)]) ∧ ∀ base : Heap, (K w.params).In base → base.Ns mainGlobals mg → FnOk l.prog w (K w.params) mg base CX0 5 fa fd ["_law_script"] (spLaw (K w.params))) :
    PySem.W.WalkO q loose XP YP l.row.toRowW d [] (fun f vs => PySem.call f vs) :=
  L2.walk_of (n := 63) (k := 5) (x := "_law_script") (CX := fun _ => CX0) (sp := fun w => spLaw (K w.params)) hn (by decide) hdf ⟨rfl, by decide, by decide⟩ hY F (fun _ _ a ns hl _ hS => ⟨a, ns, rfl, hS, hl, fun _ => rfl⟩) fun _ _ _ _ _ z => z
end SG
open PySem PySem.W PyProof.Rows
set_option maxRecDepth 100000 in
set_option maxHeartbeats 0 in
theorem PySem.Challenge.cw_strokeguess_k05_touches_or_not_holds : PySem.Challenge.rw_strokeguess_k05_touches_or_not.Holds := by
  w_on; o_law; k_head; (case hw => w_witness2)
  k_fill
  refine SG.walk (l := PySem.Challenge.rw_strokeguess_k05_touches_or_not) rfl rfl (fun w h Y => PySem.W.kIn_of Y) ?F
  case F =>
    intro w mg fa h KX G hmg
    refine' SG.all_mk KX G hmg ?a1 ?l1 ?c1 ?k1 ?a2 ?l2 ?c2 ?k2 ?a3 ?l3 ?c3 ?k3 ?a4 ?l4 ?c4 ?k4 ?a5 ?l5 ?c5 ?k5 ?a6 ?l6 ?c6 ?k6 ?a7 ?l7 ?c7 ?k7 ?a8 ?l8 ?c8 ?k8 ?a9 ?l9 ?c9 ?k9 ?a10 ?l10 ?c10 ?k10 ?a11 ?l11 ?c11 ?k11 ?a12 ?l12 ?c12 ?k12 ?a13 ?l13 ?c13 ?k13 ?a14 ?l14 ?c14 ?k14 ?a15 ?l15 ?c15 ?k15 ?a16 ?l16 ?c16 ?k16 ?zbool ?zenumerate ?zint ?zisinstance ?zlen ?zlist ?zmax ?zrange ?zset ?zstr ?ztuple ?yFARTHEST ?yLAST_MOMENT ?yLAST_FINGER ?yTOUCH_WORDS ?xTOUCH_WORDS ?yOVER_WORDS ?xOVER_WORDS
    (case a1 => k_is)
    (case l1 => k_is)
    (case c1 => k_is)
    (case k1 => k_is)
    (case a2 => k_is)
    (case l2 => k_is)
    (case c2 => k_is)
    (case k2 => k_is)
    (case a3 => k_is)
    (case l3 => k_is)
    (case c3 => k_is)
    (case k3 => k_is)
    (case a4 => k_is)
    (case l4 => k_is)
    (case c4 => k_is)
    (case k4 => k_is)
    (case a5 => k_is)
    (case l5 => k_is)
    (case c5 => k_is)
    (case k5 => k_is)
    (case a6 => k_is)
    (case l6 => k_is)
    (case c6 => k_is)
    (case k6 => k_is)
    (case a7 => k_is)
    (case l7 => k_is)
    (case c7 => k_is)
    (case k7 => k_is)
    (case a8 => k_is)
    (case l8 => k_is)
    (case c8 => k_is)
    (case k8 => k_is)
    (case a9 => k_is)
    (case l9 => k_is)
    (case c9 => k_is)
    (case k9 => k_is)
    (case a10 => k_is)
    (case l10 => k_is)
    (case c10 => k_is)
    (case k10 => k_is)
    (case a11 => k_is)
    (case l11 => k_is)
    (case c11 => k_is)
    (case k11 => k_is)
    (case a12 => k_is)
    (case l12 => k_is)
    (case c12 => k_is)
    (case k12 => k_is)
    (case a13 => k_is)
    (case l13 => k_is)
    (case c13 => k_is)
    (case k13 => k_is)
    (case a14 => k_is)
    (case l14 => k_is)
    (case c14 => k_is)
    (case k14 => k_is)
    (case a15 => k_is)
    (case l15 => k_is)
    (case c15 => k_is)
    (case k15 => k_is)
    (case a16 => k_is)
    (case l16 => k_is)
    (case c16 => k_is)
    (case k16 => k_is)
    (case zbool => k_is)
    (case zenumerate => k_is)
    (case zint => k_is)
    (case zisinstance => k_is)
    (case zlen => k_is)
    (case zlist => k_is)
    (case zmax => k_is)
    (case zrange => k_is)
    (case zset => k_is)
    (case zstr => k_is)
    (case ztuple => k_is)
    (case yFARTHEST => k_is)
    (case yLAST_MOMENT => k_is)
    (case yLAST_FINGER => k_is)
    (case yTOUCH_WORDS => k_is)
    (case xTOUCH_WORDS => k_is)
    (case yOVER_WORDS => k_is)
    (case xOVER_WORDS => k_is)
