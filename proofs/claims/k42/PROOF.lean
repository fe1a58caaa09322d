import PyProof.Rows.All
import Wide.All
import OpenK.AllK
import Wide.FinOn
import HandS.ForMost
import HandS.Flow
import HandS.Conv
import HandS.More
import HandS.Codes
import KE.DataEq
import HandS.IsInst
import PyProof.Rows.SetFrom
import HandS.Strs
import HandS.Set
import PyProof.ReprRoads
import HandS.Ends
import HandS.Words
import KE.DataIsa
import KE.KDictPairs
import HandS.Dict
import HandS.TupAny
import KE.KRevSl
import HandS.Small
import HandS.Iter
import HandS.RaiseMore
import HandS.Rev
import HandS.RevTup
import HandS.Defaults
import HandS.DictComp
import HandS.Walk
import HandS.Finally
import PySem.Challenge.RW_strokeguess_k42_steps_kept_whole
set_option Elab.async false
set_option maxRecDepth 100000
set_option linter.all false
/-! Strokeguess: what all our proofs share: a def's contract as one fact (Cl), frames (Fr), new objects. -/
namespace SG
open PySem PySem.Spec PyProof.Rows L2

/-! ### a def of the module, by its contract -/
structure Cl (P : Program) (w : World) (K : PySem.W.Frag) (mg : Str → Option Value) (base : Heap) (k : Nat) (x : Str) (sp : Sp) : Prop where
  ex : ∃ (f : Addr) (fd : FuncData) (ps : List Str), FnOk P w K mg base CX0 k f fd ps sp ∧ mg x = some (.ref f) ∧ PySem.W.keepIn K (.ref f) = true ∧ Binds K fd ps []
/-- a def as the top has left it -/
structure Df (K : PySem.W.Frag) (mg : Str → Option Value) (x : Str) (st : Stmt) (ps : List Str) : Prop where
  ex : ∃ (f : Addr) (fd : FuncData), Fun K x x st f fd ∧ mg x = some (.ref f) ∧ Binds K fd ps []
section
variable {P : Program} {w : World} {K : PySem.W.Frag} {mg : Str → Option Value} {base : Heap}
theorem Cl.mono {j k : Nat} {x : Str} {sp : Sp} (c : Cl P w K mg base j x sp) (h : j ≤ k) : Cl P w K mg base k x sp := by
  obtain ⟨f, fd, ps, F, m, kp, b⟩ := c.ex
  exact ⟨f, fd, ps, F.mono h, m, kp, b⟩
theorem Cl.imp {k : Nat} {x : Str} {sp sp' : Sp} (c : Cl P w K mg base k x sp) (h : ∀ vs H Q E, sp' vs H Q E → sp vs H Q E) : Cl P w K mg base k x sp' := by
  obtain ⟨f, fd, ps, F, m, kp, b⟩ := c.ex
  exact ⟨f, fd, ps, F.imp h, m, kp, b⟩
theorem Df.ok {x : Str} {st : Stmt} {N ps : List Str} {k : Nat} {sp : Sp} (D : Df K mg x st ps) (S : FnScope N ps (defScope st)) (len : ∀ vs H Q E, sp vs H Q E → vs.length = ps.length)
    (hbody : ∀ (f : Addr) (cdv : Value) (A : Around) (outer : List Env) (s : Shared) (H : Hp) (vs : List V) (Q : VK) (E : XK), Room k (A.deeper (envOfC x (defScope st) s.heap.objs.size f cdv)) → sp vs H Q E →
      ∃ t, PSs (cxOf CX0 P w K mg base N x (defScope st) f cdv A outer s H E).nox (defBody st) t ∧ t { nx := fun _ H' => Q .non H', rt := Q } (start N vs) H) : Cl P w K mg base (k + 1) x sp := by
  obtain ⟨f, fd, F, m, b⟩ := D.ex
  exact ⟨f, fd, ps, F.ok S len (fun cdv A outer s H vs Q E hr h => hbody f cdv A outer s H vs Q E hr h), m, F.kp, b⟩
/-- no call left: nothing can be asked -/
theorem Df.none {x : Str} {st : Stmt} {ps : List Str} {sp : Sp} (D : Df K mg x st ps) (no : ∀ vs H Q E, ¬ sp vs H Q E) : Cl P w K mg base 0 x sp := by
  obtain ⟨f, fd, F, m, b⟩ := D.ex
  exact ⟨f, fd, ps, ⟨fun vs H Q E h => absurd h (no vs H Q E), fun A outer s H args us vs Q E _ _ _ _ h => absurd h (no vs H Q E)⟩, m, F.kp, b⟩
end
section
variable {X : Cx} {k : Nat} {x : Str} {sp : Sp} {e : Expr} {es : List Expr} {t : TA} {p pos : Pos}
theorem pe_cl (c : Cl X.prog X.w X.K X.mg X.base k x sp) (hr : Room k X.A) (hg : Gl X x) (ha : PA X (e :: es) t)
    (hdb : (x == ("__debug__" : Str)) = false := by decide) (he : starEach (e :: es) X.env = (false, eval e X.env) :: starEach es X.env := by rfl) (hpl : (backTo pos (starEach es X.env)).any (·.1) = false := by rfl) :
    PE X (.Call (.Name x p) (e :: es) [] pos) (tCall sp [] E0 t) := by
  obtain ⟨f, fd, ps, F, hm, kp, b⟩ := c.ex
  exact pe_call F hr hg hm kp b .nil pass0 ha hdb he hpl
end
/-! ### heaps -/
/-- all but the objects of S are as they were -/
def Fr (S : List Addr) (H H' : Hp) : Prop := ∀ b o, H b = some o → b ∉ S → H' b = some o
/-- tuples never change -/
def Tp (H H' : Hp) : Prop := ∀ b xs, H b = some (.tup xs) → H' b = some (.tup xs)
theorem Fr.refl (S : List Addr) (H : Hp) : Fr S H H := fun _ _ h _ => h
theorem Fr.trans {S : List Addr} {H H1 H2 : Hp} (a : Fr S H H1) (b : Fr S H1 H2) : Fr S H H2 := fun c o h n => b c o (a c o h n) n
theorem Fr.mono {S S' : List Addr} {H H1 : Hp} (a : Fr S H H1) (h : ∀ x ∈ S, x ∈ S') : Fr S' H H1 := fun c o e n => a c o e fun m => n (h c m)
theorem Fr.new {S : List Addr} {H : Hp} {p : Addr} {o : HO} (h : H p = none) : Fr S H (upd H p o) := fun b u e _ => by
  rw [upd_ne (ne_of_none e h)]
  exact e
theorem Fr.put {S : List Addr} {H : Hp} {p : Addr} {o : HO} (h : p ∈ S) : Fr S H (upd H p o) := fun b u e n => by
  rw [upd_ne (fun z => n (by rw [z]; exact h))]
  exact e
theorem Fr.same {H H' : Hp} (h : Same H H') (S : List Addr) : Fr S H H' := fun b o e _ => h b o e
theorem Fr.nil {H H' : Hp} (h : Fr [] H H') : Same H H' := fun b o e => h b o e (by simp)
theorem Tp.refl (H : Hp) : Tp H H := fun _ _ h => h
theorem Tp.trans {H H1 H2 : Hp} (a : Tp H H1) (b : Tp H1 H2) : Tp H H2 := fun c o h => b c o (a c o h)
theorem Tp.new {H : Hp} {p : Addr} {o : HO} (h : H p = none) : Tp H (upd H p o) := fun b u e => by
  rw [upd_ne (ne_of_none e h)]
  exact e
theorem Tp.same {H H' : Hp} (h : Same H H') : Tp H H' := fun b _ e => h b _ e
theorem same_new {H : Hp} {p : Addr} {o : HO} (h : H p = none) : Same H (upd H p o) := fun b u e => by
  rw [upd_ne (ne_of_none e h)]
  exact e
/-- a new object, told by what is known of it -/
theorem alloc {H : Hp} {o : HO} {Q : Addr → Hp → Prop} (k : ∀ p H', H p = none → H' p = some o → Same H H' → (∀ q, q ≠ p → H' q = H q) → Q p H') : ∀ p, H p = none → Q p (upd H p o) :=
  fun p hp => k p _ hp upd_same (same_new hp) fun _ h => upd_ne h
theorem Same.tup {K : PySem.W.Frag} {H H' : Hp} {a : Addr} {xs : List V} (e : Same H H') (h : SqT K H a xs) : SqT K H' a xs := by
  rcases h with (h | ⟨o, h⟩) | h
  · exact .inl (.inl (e _ _ h))
  · exact .inl (.inr ⟨o, e _ _ h⟩)
  · exact .inr h
end SG
namespace SG
open PySem PySem.Spec PyProof.Rows L2
section
variable {X : Cx}
/-- == and != of data without dicts, any texts -/
def rEqP (K : PySem.W.Frag) : R2 := fun x y H Q => ∃ d e, Dp K H x d ∧ Dp K H y e ∧ PyData.plain d = true ∧ PyData.plain e = true ∧ min d.depth e.depth ≤ 64 ∧ Q (.bl (PyData.eqv d e)) H
def rNeP (K : PySem.W.Frag) : R2 := fun x y H Q => ∃ d e, Dp K H x d ∧ Dp K H y e ∧ PyData.plain d = true ∧ PyData.plain e = true ∧ min d.depth e.depth ≤ 64 ∧ Q (.bl (!PyData.eqv d e)) H
theorem op_eqP (hu : X.A.units + 64 < cLine) : OpR X (compareOp .Eq) (rEqP X.K) := by
  intro pins s σ H x y v u Q I rx ry h
  obtain ⟨d, e, hd, he, sd, se, hm, q⟩ := h
  obtain ⟨as, r1⟩ := Dp.reads I d x v hd rx
  obtain ⟨bs, r2⟩ := Dp.reads I e y u he ry
  exact SeqAt.eq_plain r1 r2 sd se (by omega) ⟨.bl _, H, I, rfl, q⟩
theorem op_neP (hu : X.A.units + 64 < cLine) : OpR X (compareOp .NotEq) (rNeP X.K) := by
  intro pins s σ H x y v u Q I rx ry h
  obtain ⟨d, e, hd, he, sd, se, hm, q⟩ := h
  obtain ⟨as, r1⟩ := Dp.reads I d x v hd rx
  obtain ⟨bs, r2⟩ := Dp.reads I e y u he ry
  exact SeqAt.ne_plain r1 r2 sd se (by omega) ⟨.bl _, H, I, rfl, q⟩
end
/-! ### powers of any base -/
def CPowG (i j : Int) : Prop := 0 ≤ j ∧ (Builtin.Int.intBits i : Int) * j ≤ 2 ^ 27
theorem op_powG {X : Cx} : OpR X (binaryOp .Pow) (rI CPowG fun i j => .int (i ^ j.toNat)) := opI fun _ _ _ _ _ _ _ hc q => pow_int hc.1 hc.2 q
/-! ### data made of tuples alone: it never changes -/
mutual
inductive Im (H : Hp) : V → PyData → Prop
  | non : Im H .non .none
  | bl (b : Bool) : Im H (.bl b) (.bool b)
  | int (i : Int) : Im H (.int i) (.int i)
  | str (x : Str) : Im H (.str x) (.str x)
  | tup {a : Addr} {xs : List V} {ds : List PyData} : H a = some (.tup xs) → ImAll H xs ds → Im H (.ref a) (.tuple ds)
inductive ImAll (H : Hp) : List V → List PyData → Prop
  | nil : ImAll H [] []
  | cons {v : V} {vs : List V} {d : PyData} {ds : List PyData} : Im H v d → ImAll H vs ds → ImAll H (v :: vs) (d :: ds)
end
mutual
theorem Im.dp {K : PySem.W.Frag} {H : Hp} : ∀ {d : PyData} {v : V}, Im H v d → Dp K H v d
  | .none, _, h => by cases h; exact .non
  | .bool _, _, h => by cases h; exact .bl _
  | .int _, _, h => by cases h; exact .int _
  | .str _, _, h => by cases h; exact .str _
  | .tuple _, _, h => by
    cases h with
    | tup a b => exact .tup (SqT.of a) (ImAll.dp b)
  | .list _, _, h => by cases h
  | .dict _, _, h => by cases h
theorem ImAll.dp {K : PySem.W.Frag} {H : Hp} : ∀ {ds : List PyData} {vs : List V}, ImAll H vs ds → DpAll K H vs ds
  | [], _, h => by cases h; exact .nil
  | _ :: _, _, h => by
    cases h with
    | cons a b => exact .cons (Im.dp a) (ImAll.dp b)
end
mutual
theorem Im.tp {H H' : Hp} (t : Tp H H') : ∀ {d : PyData} {v : V}, Im H v d → Im H' v d
  | .none, _, h => by cases h; exact .non
  | .bool _, _, h => by cases h; exact .bl _
  | .int _, _, h => by cases h; exact .int _
  | .str _, _, h => by cases h; exact .str _
  | .tuple _, _, h => by
    cases h with
    | tup a b => exact .tup (t _ _ a) (ImAll.tp t b)
  | .list _, _, h => by cases h
  | .dict _, _, h => by cases h
theorem ImAll.tp {H H' : Hp} (t : Tp H H') : ∀ {ds : List PyData} {vs : List V}, ImAll H vs ds → ImAll H' vs ds
  | [], _, h => by cases h; exact .nil
  | _ :: _, _, h => by
    cases h with
    | cons a b => exact .cons (Im.tp t a) (ImAll.tp t b)
end
theorem Im.plain {H : Hp} : ∀ {d : PyData} {v : V}, Im H v d → d.plain = true := by
  intro d v h
  induction h using Im.rec (motive_2 := fun vs ds _ => PyData.plainAll ds = true) with
  | non => rfl
  | bl => rfl
  | int => rfl
  | str => rfl
  | tup _ _ ih => exact ih
  | nil => rfl
  | cons _ _ a b =>
    show (PyData.plain _ && PyData.plainAll _) = true
    rw [a, b]; rfl
end SG
namespace SG
open PySem PySem.Spec PyProof.Rows L2
theorem upd_is {H H' : Hp} {p : Addr} {o : HO} (e : upd H p o = H') : H' p = some o := by
  rw [← e]
  exact upd_same
theorem same_is {H H' : Hp} {p : Addr} {o : HO} (e : upd H p o = H') (h : H p = none) : Same H H' := by
  rw [← e]
  exact same_new h
end SG
namespace SG
open PySem PySem.Spec PyProof.Rows L2
section
variable {X : Cx}
/-- != of any list and an empty one -/
def rNeNil (K : PySem.W.Frag) : R2 := fun x y H Q => ∃ (a b : Addr) (xs : List V), x = .ref a ∧ y = .ref b ∧ SqL K H a xs ∧ SqL K H b [] ∧ Q (.bl (!xs.isEmpty)) H
theorem op_neNil (hu : X.A.units + 64 < cLine) : OpR X (compareOp .NotEq) (rNeNil X.K) := by
  intro pins s σ H x y v u Q I rx ry h
  obtain ⟨a, b, xs, rfl, rfl, ha, hb, q⟩ := h
  cases (show v = Value.ref a from rx)
  cases (show u = Value.ref b from ry)
  obtain ⟨us, r1, p1, _⟩ := I.list ha
  obtain ⟨ws, r2, p2, _⟩ := I.list hb
  have e2 : ws = [] := by cases r2; rfl
  subst e2
  have hu' : X.A.units < cLine := by omega
  cases xs with
  | nil =>
    have e1 : us = [] := by cases r1; rfl
    subst e1
    have z := SeqAt.RcNeAt.lists (A := X.A) (s := s) (e := fun _ => true) p1.isList p2.isList rfl hu' (fun j j1 _ => absurd j1 (Nat.not_lt_zero j))
    exact z X.prog X.w _ _ ⟨.bl false, H, I, rfl, q⟩
  | cons x r =>
    have hsz : ¬ us.toArray.size = ([] : List Value).toArray.size := by
      cases r1 with
      | cons => simp
    have z := SeqAt.RcNeAt.lists_lengths (A := X.A) (s := s) p1.isList p2.isList (by simpa using hsz) hu'
    exact z X.prog X.w _ _ ⟨.bl true, H, I, rfl, q⟩
end
end SG
namespace SG
open PySem PySem.Spec PyProof.Rows L2
/-! ### sets of texts: how many -/
/-- the first i of xs, each once -/
def seen (xs : List Str) (i : Nat) : List Str := (xs.take i).foldl step_dedup []
theorem seen_succ {xs : List Str} {i : Nat} {x : Str} (h : xs[i]? = some x) : seen xs (i + 1) = step_dedup (seen xs i) x := by
  obtain ⟨hi, e⟩ := List.getElem?_eq_some_iff.mp h
  unfold seen
  rw [List.take_succ_eq_append_getElem hi, List.foldl_append, e]
  rfl
theorem dedup_any (σ : List Str) (v k : Str) : (step_dedup σ v).any (· == k) = (σ.any (· == k) || decide (k = v)) := by
  unfold step_dedup
  by_cases hv : σ.any (· == v) = true
  · rw [if_pos hv]
    by_cases e : k = v
    · subst e; simp [hv]
    · simp [e]
  · rw [if_neg hv, List.any_append]
    by_cases e : k = v
    · subst e; simp
    · simp [e, Ne.symm e]
theorem dedup_len (σ : List Str) (v : Str) : (step_dedup σ v).length = if σ.any (· == v) = true then σ.length else σ.length + 1 := by
  unfold step_dedup
  split <;> simp
theorem seen_le (xs : List Str) (i : Nat) : (seen xs i).length ≤ i := Nat.le_trans (foldl_step_dedup_nil_length_le _) (by rw [List.length_take]; omega)
section
variable {prog : Program} {w : World} {A : Around}
/-- the walk of set.update over texts: after i of them the set is that of the first i -/
theorem strs_into {R : Result → Shared → Prop} {I : Addr} {fp wr : List Addr} {G : Array GenState → Array GenState → Prop} {n : Nat} {P : Nat → Value → Prop} {St : Nat → Shared → Prop}
    (W : WalksS prog w A.in1 I fp wr G n P St) (S : Addr) (out : S ∉ fp) (xs : List Str) (hn : xs.length = n) (few : n + 1 < scanBound) (val : ∀ (i : Nat) (v : Value), P i v → ∃ x t, xs[i]? = some x ∧ v = Value.str x t) :
    ∀ (left i : Nat) (s : Shared), i + left = n → St i s → s.heap.SetOf (PySem.strKind prog w) S (fun k => (seen xs i).any (· == k)) (seen xs i).length →
      (∀ s2, Moved (S :: wr) G s s2 → s2.heap.SetOf (PySem.strKind prog w) S (fun k => (seen xs n).any (· == k)) (seen xs n).length → R (.ok (.ret .none)) s2) →
      codeAny (model prog w) A (.builtin "set.update.loop" ⟨[.ref S, .ref I], []⟩) R s
  | 0, i, s, e, st, hS, fin => by
    obtain rfl : i = n := by omega
    refine codeAny_builtin PyProof.Rows.F.entry_set_update_loop ?_
    rw [Around.under_plainId PyProof.Rows.F.plain_set_update_loop _]
    refine wpAny_bind (W.done s _ _ st fun s2 mv => wpAny_pure (fin s2 (mv.mono fun b hb => List.mem_cons_of_mem _ hb) ?_))
    obtain ⟨o, es, ep, tb, ho, more⟩ := hS
    exact ⟨o, es, ep, tb, mv.heap S _ (fun z => out (W.sub _ z)) ho, more⟩
  | left + 1, i, s, e, st, hS, fin => by
    refine codeAny_builtin PyProof.Rows.F.entry_set_update_loop ?_
    rw [Around.under_plainId PyProof.Rows.F.plain_set_update_loop _]
    refine wpAny_bind (W.item i s _ _ (by omega) st fun v s2 hv st2 mv => ?_)
    obtain ⟨x, t, hx, rfl⟩ := val i v hv
    have hS2 : s2.heap.SetOf (PySem.strKind prog w) S (fun k => (seen xs i).any (· == k)) (seen xs i).length := by
      obtain ⟨o, es, ep, tb, ho, more⟩ := hS
      exact ⟨o, es, ep, tb, mv.heap S _ (fun z => out (W.sub _ z)) ho, more⟩
    refine wpAny_bind (wpAny_holding ?_)
    unfold setAdd
    refine wpAny_holding (wpAny_bind ((PySem.strKind prog w).pyHash (k := x) (strKind_is _ _ _ _) ?_))
    have room := seen_le xs i
    refine wpAny_setAddHashed_of (knd := PySem.strKind prog w) (s := { s2 with toks := s2.toks + 1 }) (strKind_is _ _ _ _) rfl hS2 (by omega) fun h3 but hS3 => ?_
    have hS4 : h3.SetOf (PySem.strKind prog w) S (fun k => (seen xs (i + 1)).any (· == k)) (seen xs (i + 1)).length :=
      PyProof.Rows.SetOf_congr hS3 (fun k => by rw [seen_succ hx, dedup_any]) (by rw [seen_succ hx, dedup_len])
    refine wpAny_pure ⟨plainId_quiet PyProof.Rows.F.plain_set_update_loop _, strs_into W S out xs hn few val left (i + 1) _ (by omega) (W.frame _ s2 _ _ st2 (Nat.le_succ _) fun b hb o q => ?_) hS4 fun s5 mv5 hS5 => fin s5 (Moved.trans W.gtrans ((mv.mono fun b hb => List.mem_cons_of_mem _ hb).then_heap (Nat.le_succ _) fun b o hb q => ?_) mv5) hS5⟩
    · rw [but.2 b (fun z : b = S => out (by rw [← z]; exact hb))]
      exact q
    · rw [but.2 b (fun z : b = S => hb (by rw [z]; exact List.mem_cons_self))]
      exact q
set_option maxHeartbeats 3200000 in
/-- set(xs), xs a list of texts -/
theorem set_of_strs {E : Value → Shared → Prop} {s : Shared} {l : Addr} {items : Array Value} {xs : List Str} {Q : Value → Shared → Prop} (calm : A.handled = none) (hl : s.heap.IsList l items) (hi : PyProof.Rows.StrsAre items.toList xs) (few : xs.length + 1 < scanBound)
    (k : ∀ (h2 : Heap) (tk : Nat), h2.SetOf (PySem.strKind prog w) s.heap.objs.size (fun j => (seen xs xs.length).any (· == j)) (seen xs xs.length).length →
      (∀ b o, b < s.heap.objs.size → s.heap.get? b = some o → h2.get? b = some o) → Q (.ref s.heap.objs.size) { s with heap := h2, toks := tk }) : wpAny (model prog w) A (call (.type "set") [.ref l]) Q E s := by
  have nx : xs.length = items.size := by rw [← StrsAre.len_eq hi, Array.length_toList]
  obtain ⟨_, _, hmro⟩ := PySem.F.called_set.mro
  have hmade := PySem.F.called_set.made; have hsub := PySem.F.called_set.sub
  refine wpAny_call (codeAny_of_tree (show wpAny _ _ (callAny (.type "set") _) _ _ _ from wpAny_pure ⟨Code.quiet_builtin _ (by decide +kernel), codeAny_builtin PySem.F.entry_type_call ?_⟩))
  rw [Around.under_plain (weight_type_call_type "set" [.ref l] []) rfl]
  have h1 := PySem.F.called_set.notType; have h2 := PySem.F.called_set.canCreate; have h3 := PySem.F.typeCall_set_1 (.ref l)
  repeat (any_goals (first | assumption | wp_step))
  refine codeAny_mono (code_set_new_1 (.ref l) (E := E) (Q₁ := fun ob s2 => ∃ led : Bool, ob = .ref s.heap.objs.size ∧ s2 = { s with heap := s.heap.push { cls := .type "set", dict := none, data := .set #[] 0 (.fresh 0 0 led) } }) fun led => ⟨led, rfl, rfl⟩) fun r s2 hr => ?_
  match r, hr with
  | .error e, hr => exact hr
  | .ok .next, hr => exact hr.elim
  | .ok .brk, hr => exact hr.elim
  | .ok .cont, hr => exact hr.elim
  | .ok (.ret ob), ⟨led, e1, e2⟩ =>
  subst e1; subst e2
  have hS : (s.heap.push { cls := .type "set", dict := none, data := .set #[] 0 (.fresh 0 0 led) }).get? s.heap.objs.size = some { cls := .type "set", dict := none, data := .set #[] 0 (.fresh 0 0 led) } := Heap.get?_push_size _ rfl
  have hT : Shared.TypeIs { s with heap := s.heap.push { cls := .type "set", dict := none, data := .set #[] 0 (.fresh 0 0 led) } } (.ref s.heap.objs.size) "set" := ⟨_, hS, rfl⟩
  have h4 := PySem.F.called_set.init.lookup; have h5 := PySem.F.called_set.init.bind (.ref s.heap.objs.size)
  repeat (any_goals (first | assumption | wp_step))
  refine codeAny_mono (codeAny_call_builtin (R := wants (fun r s3 => r = .none ∧ ∃ h2 tk, s3 = { s with heap := h2, toks := tk } ∧ h2.SetOf (PySem.strKind prog w) s.heap.objs.size (fun j => (seen xs xs.length).any (· == j)) (seen xs xs.length).length ∧
    (∀ b o, b < s.heap.objs.size → s.heap.get? b = some o → h2.get? b = some o)) E) PySem.F.called_set.init.plain PySem.F.entry_set_init (check_set_init_1 hT ?_)) fun r s3 hr => ?_
  · obtain ⟨⟨ocls, odict, odata, oslots⟩, hol, hcl, nl, hdl⟩ := hl
    simp only at hcl hdl
    subst hcl; subst hdl
    have hol2 : (s.heap.push { cls := .type "set", dict := none, data := .set #[] 0 (.fresh 0 0 led) }).get? l = some { cls := .type "list", dict := odict, data := .seq items nl, slots := oslots } := Heap.get?_push_of_some _ hol
    have a1 := PySem.F.sub_list_set; have a2 := PySem.F.sub_list_frozenset; have a3 : (Value.type "list" == Value.type "dict") = false := by decide
    have hl2 : (s.heap.push { cls := .type "set", dict := none, data := .set #[] 0 (.fresh 0 0 led) }).IsList l items := ⟨_, hol2, rfl, nl, rfl⟩
    unfold Builtin.«set.__init__» noKeywords Builtin.Frozenset.updateFrom
    generalize hPI : pyIter = PI
    wp_walk
    subst hPI
    refine wpAny_pyIter_list hl2 (wpAny_bind (wpAny_runValue ?_))
    have lS : l < s.heap.objs.size := Heap.lt_size hol
    have calm3 : A.in1.in1.in1.handled = none := by simp [calm]
    have ne1 : l ≠ (s.heap.push { cls := .type "set", dict := none, data := .set #[] 0 (.fresh 0 0 led) }).objs.size := by
      rw [Heap.size_push]; exact Nat.ne_of_lt (Nat.lt_succ_of_lt lS)
    have ne2 : s.heap.objs.size ∉ [(s.heap.push { cls := .type "set", dict := none, data := .set #[] 0 (.fresh 0 0 led) }).objs.size, l] := by
      rw [Heap.size_push]
      simp only [List.mem_cons, List.not_mem_nil, or_false, not_or]
      exact ⟨Nat.ne_of_lt (Nat.lt_succ_self _), Nat.ne_of_gt lS⟩
    refine strs_into ((Walks.list calm3 _ l ne1 items).toS) s.heap.objs.size ne2 xs nx (by omega) (fun i v hv => ?_) items.size 0 _ (by omega) ⟨⟨_, Heap.get?_push_size _ rfl, rfl, rfl⟩, (hl2.push _)⟩ ?first ?last
    · have hv' : items[i]? = some v := hv
      obtain ⟨t, e⟩ := SS.strs_at hi i v (by rw [Array.getElem?_toList]; exact hv')
      have il : i < xs.length := by rw [nx]; exact (Array.getElem?_eq_some_iff.mp hv').1
      exact ⟨xs[i], t, List.getElem?_eq_getElem il, by rw [e]; simp [List.getD, List.getElem?_eq_getElem il]⟩
    case first =>
      have g : ((s.heap.push { cls := .type "set", dict := none, data := .set #[] 0 (.fresh 0 0 led) }).push { cls := .type "list_iterator", data := .fields #[.ref l, .int 0 0] }).get? s.heap.objs.size = some { cls := .type "set", dict := none, data := .set #[] 0 (.fresh 0 0 led) } := Heap.get?_push_of_some _ hS
      exact PyProof.Rows.SetOf_congr ((PyProof.Rows.setObjOf_fresh (knd := PySem.strKind prog w) led).setOf g (by unfold scanBound; omega)) (fun _ => rfl) rfl
    case last =>
      intro s4 mv hS4
      obtain ⟨h6, g6, d6, tk6, os6⟩ := s4
      obtain rfl : g6 = s.gens := mv.gens
      obtain rfl : d6 = s.drawn := mv.drawn
      obtain rfl : os6 = s.os := mv.os
      refine wpAny_pure (show wpAny _ _ (ret Value.none) _ _ _ from wpAny_pure ⟨rfl, h6, tk6, rfl, by rw [nx]; exact hS4, fun b o hb q => ?_⟩)
      refine mv.heap b o ?_ (Heap.get?_push_of_some _ (Heap.get?_push_of_some _ q))
      rw [Heap.size_push]
      simp only [List.mem_cons, List.not_mem_nil, or_false, not_or]
      exact ⟨Nat.ne_of_lt hb, Nat.ne_of_lt (Nat.lt_succ_of_lt hb)⟩
  · match r, hr with
    | .error e, hr => exact hr
    | .ok .next, hr => exact hr.elim
    | .ok .brk, hr => exact hr.elim
    | .ok .cont, hr => exact hr.elim
    | .ok (.ret r), ⟨e1, h6, tk6, e2, hS6, hk6⟩ =>
    subst e1; subst e2
    repeat (any_goals (first | assumption | wp_step))
    exact k _ _ hS6 hk6
end
section
variable {X : Cx}
/-- len(set(xs)), xs a list of texts -/
def tLenSetT (K : PySem.W.Frag) (ta : TE) : TE := fun σ H Q => ta σ H fun x H1 => ∃ (l : Addr) (xs : List Str), x = .ref l ∧ SqL K H1 l (xs.map V.str) ∧ xs.length ≤ 4000 ∧ Q (.int ((seen xs xs.length).length : Nat)) H1
theorem pe_lenSetT {a : Expr} {ta : TE} {p p2 q pos : Pos} (calm : X.calm = true) (g1 : Gl X "len") (m1 : X.mg "len" = none) (g2 : Gl X "set") (m2 : X.mg "set" = none) (ha : PE X a ta)
    (na : starEach [a] X.env = (false, eval a X.env) :: starEach [] X.env := by rfl) : PE X (.Call (.Name "len" p) [.Call (.Name "set" p2) [a] [] q] [] pos) (tLenSetT X.K ta) := by
  refine ⟨fun pins s σ H Q I h => Call_ (ld_blt I g1 m1 boot_len (PyProof.Rows.callWith_builtin1 (PyProof.Rows.args_cons ?_ rfl) rfl rfl))⟩
  refine Call_ (ld_blt I g2 m2 boot_set (PyProof.Rows.callWith_type1 (PyProof.Rows.args_cons (thn (ha.run pins s σ H _ I h) fun v s1 ⟨x, H1, I1, r1, l, xs, ex, hq, few, q1⟩ => PyProof.Rows.args_nil ?_) na) na rfl))
  subst ex
  cases r1
  obtain ⟨its, r, pl, _⟩ := I1.list hq
  have lx : its.length = xs.length := by rw [← r.length, List.length_map]
  refine set_of_strs (I1.ok.hd calm) pl.isList (by simpa using strsAre_of r) (by unfold scanBound; omega) fun h2 tk hS hk => PyProof.Rows.args_nil ?_
  obtain ⟨o, es, ep, t, ho, hex, hd, _, _, _, hf, hn⟩ := hS
  have I2 : Inv X pins σ H1 { s1 with heap := h2, toks := tk } := I1.kept fun b o e => hk b o (Heap.lt_size e) e
  have bd := seen_le xs xs.length
  exact call_len_set ho hex hd hf (by rw [hn]; omega) ⟨.int _, H1, I2.tok _, ⟨_, by rw [hn]⟩, q1⟩
end
end SG
/-! functions that are called while nothing is being shown: repr of data can be called in them -/
namespace SG
open PySem PySem.Spec PyProof.Rows L2
/-- FnOk, where no repr is under way -/
structure FnG (P : Program) (w : World) (K : PySem.W.Frag) (mg : Str → Option Value) (base : Heap) (k : Nat) (f : Addr) (fd : FuncData) (ps : List Str) (sp : Sp) : Prop where
  cnt : ∀ vs H Q E, sp vs H Q E → vs.length = ps.length
  go : ∀ (A : Around) (up : List Env) (s : Shared) (H : Hp) (ar : Args) (us : List Value) (vs : List V) (Q : VK) (E : XK),
    Room k A → A.guards = some [] → Env0 P w K mg base A up s H → BindsTo s fd ar (ps.zip us) → Vals vs us → sp vs H Q E →
    codeAny (model P w) A (.call (.ref f) ar) (CR CX0 up P w H s Q E) s
structure ClG (P : Program) (w : World) (K : PySem.W.Frag) (mg : Str → Option Value) (base : Heap) (k : Nat) (x : Str) (sp : Sp) : Prop where
  ex : ∃ (f : Addr) (fd : FuncData) (ps : List Str), FnG P w K mg base k f fd ps sp ∧ mg x = some (.ref f) ∧ PySem.W.keepIn K (.ref f) = true ∧ Binds K fd ps []
section
variable {P : Program} {w : World} {K : PySem.W.Frag} {mg : Str → Option Value} {base : Heap}
theorem ClG.mono {j k : Nat} {x : Str} {sp : Sp} (c : ClG P w K mg base j x sp) (h : j ≤ k) : ClG P w K mg base k x sp := by
  obtain ⟨f, fd, ps, F, m, kp, b⟩ := c.ex
  exact ⟨f, fd, ps, ⟨F.cnt, fun A up s H ar us vs Q E hr => F.go A up s H ar us vs Q E (hr.mono h)⟩, m, kp, b⟩
theorem fun_okG {x qual : Str} {st : Stmt} {f : Addr} {fd : FuncData} {N ps : List Str} {k : Nat} {sp : Sp} (F : Fun K x qual st f fd) (S : FnScope N ps (defScope st)) (len : ∀ vs H Q E, sp vs H Q E → vs.length = ps.length)
    (hb : ∀ (cdv : Value) (A : Around) (up : List Env) (s : Shared) (H : Hp) (vs : List V) (Q : VK) (E : XK), Room k (A.deeper (envOfC qual (defScope st) s.heap.objs.size f cdv)) → A.guards = some [] → sp vs H Q E →
      ∃ t, PSs (cxOf CX0 P w K mg base N qual (defScope st) f cdv A up s H E).nox (defBody st) t ∧ t { nx := fun _ H' => Q .non H', rt := Q } (start N vs) H) : FnG P w K mg base (k + 1) f fd ps sp := by
  obtain ⟨oc, od, kV, doc, pm, an, cdv, ct, osl, rfl, lk, hcd⟩ := F.ex
  constructor
  · exact len
  intro A up s H ar us vs Q E hr hg e0 bd rv hsp
  have inK : K.In s.heap := e0.mod.kin.keeps fun b o e => (e0.bs b o e).1
  have free : s.heap.NoLimit := e0.mod.nolimit.keeps fun b o e => (e0.bs b o e).1
  have kinds : ∀ y ∈ ps.zip us, (defScope st).names.lookup y.1 = some .local ∨
      ((defScope st).names.lookup y.1 = some .cell ∧ ((cellsFrom (s.heap.objs.size + 1) (defScope st).names []).lookup y.1).isSome = true) := by
    rintro ⟨n, v⟩ hy
    cases S.par n (List.of_mem_zip hy).1 with
    | inl q => exact Or.inl q
    | inr q => exact Or.inr ⟨q, PySem.W.cellsFrom_some _ _ _ (Or.inl q)⟩
  apply codeAny_call_function hr.depth (inK _ _ lk) rfl S.co S.gen rfl (PySem.W.codeRec_of inK hcd) (bd _ _ _ _ ?_)
  apply wpAny_newFunctionEnv_cells S.kind kinds
  intro env he s1 ic
  subst he
  refine ⟨free.keeps ic.toInCall.keep, codeAny_func ?_⟩
  obtain ⟨t, ht0, hq⟩ := hb cdv A up s H vs Q E (hr.deeper _) hg hsp
  have ht := ht0.nox
  have J0 := inv_start (CX := CX0) (E := E) S hr.hd e0 (len _ _ _ _ hsp) rv ic
  refine wpAny_mono (ht.run [] s1 (start N vs) H _ J0 hq) ?_ ?_
  · intro fl s' hs
    cases fl with
    | ret u =>
      obtain ⟨v, σ', H', J, rv', q⟩ := hs
      exact ⟨v, H', J.os, J.bare, J.base, J.hok, rv', q⟩
    | next =>
      obtain ⟨σ', H', J, q⟩ := hs
      exact ⟨V.non, H', J.os, J.bare, J.base, J.hok, rfl, q⟩
    | brk => obtain ⟨_, _, _, q⟩ := hs; exact q.elim
    | cont => obtain ⟨_, _, _, q⟩ := hs; exact q.elim
  · intro e s' hs
    exact hs
theorem Df.okG {x : Str} {st : Stmt} {N ps : List Str} {k : Nat} {sp : Sp} (D : Df K mg x st ps) (S : FnScope N ps (defScope st)) (len : ∀ vs H Q E, sp vs H Q E → vs.length = ps.length)
    (hb : ∀ (f : Addr) (cdv : Value) (A : Around) (up : List Env) (s : Shared) (H : Hp) (vs : List V) (Q : VK) (E : XK), Room k (A.deeper (envOfC x (defScope st) s.heap.objs.size f cdv)) → A.guards = some [] → sp vs H Q E →
      ∃ t, PSs (cxOf CX0 P w K mg base N x (defScope st) f cdv A up s H E).nox (defBody st) t ∧ t { nx := fun _ H' => Q .non H', rt := Q } (start N vs) H) : ClG P w K mg base (k + 1) x sp := by
  obtain ⟨f, fd, F, m, b⟩ := D.ex
  exact ⟨f, fd, ps, fun_okG F S len (fun cdv A up s H vs Q E hr hg h => hb f cdv A up s H vs Q E hr hg h), m, F.kp, b⟩
end
theorem guards_in {A : Around} {q : Str} {sc : Scope} {n : Addr} {f : Addr} {c : Value} (h : A.guards = some []) : (A.deeper (envOfC q sc n f c)).guards = some [] := by
  simpa [Around.deeper] using h
section
variable {X : Cx} {k : Nat} {x : Str} {sp : Sp} {e : Expr} {es : List Expr} {t : TA} {p pos : Pos}
theorem pe_clG (c : ClG X.prog X.w X.K X.mg X.base k x sp) (hr : Room k X.A) (hg : X.A.guards = some []) (gl : Gl X x) (ha : PA X (e :: es) t)
    (hdb : (x == ("__debug__" : Str)) = false := by decide) (he : starEach (e :: es) X.env = (false, eval e X.env) :: starEach es X.env := by rfl) (hpl : (backTo pos (starEach es X.env)).any (·.1) = false := by rfl) :
    PE X (.Call (.Name x p) (e :: es) [] pos) (tCall sp [] E0 t) := by
  obtain ⟨f, fd, ps, F, hm, kp, b⟩ := c.ex
  constructor
  intro pins s σ H Q I h
  apply wpAny_Call_Name_kw (ld_glob I gl hm ?_ hdb)
  apply PySem.W.callWith_K (h₀ := X.base) I.ok.mod.kin kp (thn (ha.run pos pins s σ H _ I h) ?_) he hpl
  rintro us s1 ⟨vs, H1, J, rv, q⟩
  refine ⟨J.kIn, ?_⟩
  have q' : sp (vs ++ []) H1 Q E0 := q
  rw [List.append_nil] at q'
  have cnt : us.length = ps.length := by rw [← rv.length]; exact F.cnt _ _ _ _ q'
  have bd := b s1 us J.kIn (by rw [List.append_nil]; exact cnt)
  rw [List.append_nil] at bd
  refine wpAny_call (codeAny_mono (F.go X.A X.stack s1 H1 ⟨us, []⟩ us vs Q E0 hr hg J.env0 bd rv q') ?_)
  rintro (er | fl) s' hq
  · exact False.elim hq
  · cases fl with
    | ret u => exact J.after hq
    | next => exact hq.elim
    | brk => exact hq.elim
    | cont => exact hq.elim
end
/-- the law's own call, nothing being shown around it -/
theorem law_callG {P : Program} {w : World} {K : PySem.W.Frag} {mg mb : Str → Option Value} {k : Nat} {fa a : Addr} {fd : FuncData} {x : Str} {sp : Sp} {s : Shared} {vs : List Value} {ns : List Int}
    (KX : K.In s.heap) (hns : s.heap.Ns mainGlobals mg) (hb : s.heap.Ns builtinsNs mb) (hbb : ∀ x : Str, x ≠ "__name__" → mb x = bootBuiltins x) (hlim : s.heap.NoLimit) (hg : s.gens = #[])
    (ha : s.heap.get? a = some { cls := .type "list", data := .seq vs.toArray }) (hi : IntsAre vs ns) (hl : ns.length ≤ sizeLine) (hr : Room k callerA)
    (F : ∀ base : Heap, K.In base → base.Ns mainGlobals mg → FnG P w K mg base k fa fd [x] sp) (bd : ∀ (s : Shared) (u : Value), BindsTo s fd ⟨[u], []⟩ [(x, u)])
    (ask : ∀ H : Hp, Only H → SqL K H a (ns.map V.int) → sp [.ref a] H (fun v _ => v = .bl true) fun _ _ _ => False) :
    codeAny (model P w) callerA (.call (.ref fa) ⟨[.ref a], []⟩) (fun r s' => r = .ok (.ret (.bool true)) ∧ OldK s.heap s'.heap ∧ s'.os = s.os ∧ AllBare s'.gens) s := by
  have vals := vals_ints hi
  have many := hi.length
  have main : ∀ H : Hp, Only H → SqL K H a (ns.map V.int) → HOk P w H s.heap → (∀ b, H b ≠ none → b = a) → (H a ≠ none → K.lookup a = none) →
      codeAny (model P w) callerA (.call (.ref fa) ⟨[.ref a], []⟩) (fun r s' => r = .ok (.ret (.bool true)) ∧ OldK s.heap s'.heap ∧ s'.os = s.os ∧ AllBare s'.gens) s := by
    intro H only sq hok at_a hK
    have rest : ∀ {b : Addr} {o : Obj}, s.heap.get? b = some o → H b = none → (hidT s.heap H).get? b = some o := fun e n => hidT_get e n
    have dicts : ∀ {b : Addr} {o : Obj} {es : Array DictEntry} {ep : Nat}, s.heap.get? b = some o → o.data = .dict es ep → H b = none := by
      intro b o es ep e d
      rcases q : H b with _ | u
      · rfl
      · have e' : b = a := at_a b (by rw [q]; exact Option.some_ne_none _)
        rw [e', ha] at e
        cases e
        have d' : Data.seq vs.toArray _ = Data.dict es ep := d
        cases d'
    have spaces : ∀ {b : Addr} {m : Str → Option Value}, s.heap.Ns b m → (hidT s.heap H).Ns b m := by
      rintro b m ⟨o, es, ep, e, d, r⟩
      exact ⟨o, es, ep, rest e (dicts e d), d, r⟩
    have inB : K.In (hidT s.heap H) := by
      intro b o e
      refine rest (KX b o e) ?_
      rcases q : H b with _ | u
      · rfl
      · have nn : H b ≠ none := by rw [q]; exact Option.some_ne_none _
        have e' : b = a := at_a b nn
        rw [e'] at nn e
        rw [hK nn] at e
        cases e
    have md : Mod K mg (hidT s.heap H) := by
      obtain ⟨mc, h1, h2⟩ := hlim
      exact ⟨inB, spaces hns, ⟨mb, spaces hb, hbb⟩, mc, spaces h1, h2⟩
    have e0 : Env0 P w K mg (hidT s.heap H) callerA [] s H := by
      refine ⟨rfl, md, fun b o e => of_hidT e, Nat.le_of_eq (hidT_size _ _), trivial, ?_, hok, .of_eq hg⟩
      intro b hb
      have z : b ∈ ([] : List Addr) := hb
      cases z
    refine codeAny_mono ((F _ inB (spaces hns)).go callerA [] s H ⟨[.ref a], []⟩ [.ref a] [.ref a] _ _ hr rfl e0 (bd s (.ref a)) (.cons rfl .nil) (ask H only sq)) ?_
    rintro (e | fl) s' h
    · exact False.elim h
    · cases fl with
      | next => exact h.elim
      | brk => exact h.elim
      | cont => exact h.elim
      | ret u =>
        obtain ⟨v, H', os, bare, un, hok', r', q⟩ := h
        have q' : v = .bl true := q
        rw [q'] at r'
        obtain rfl : u = Value.bool true := r'
        refine ⟨rfl, OldK.of_keep ?_, os, bare⟩
        intro b o e
        rcases qb : H b with _ | u
        · refine un.keep b o e qb ?_ (by simp)
          intro z
          have z' : b ∈ ([] : List Addr) := z
          cases z'
        · rcases only b with z | ⟨ob, xs, z⟩
          · rw [qb] at z; cases z
          · obtain ⟨e1, _⟩ := hok b _ z
            obtain ⟨e2, _⟩ := hok' b _ (un.frzs b ob _ z)
            rw [e] at e1
            cases e1
            exact e2
  rcases hk : K.lookup a with _ | o
  · have yes : ∀ b, b = a → (fun b => if b = a then some (HO.frz { cls := .type "list", data := .seq vs.toArray } (.lst (ns.map V.int))) else none) b = some (HO.frz { cls := .type "list", data := .seq vs.toArray } (.lst (ns.map V.int))) := fun b e => if_pos e
    refine main (fun b => if b = a then some (.frz { cls := .type "list", data := .seq vs.toArray } (.lst (ns.map V.int))) else none) ?_ (.inl (.inr ⟨_, yes a rfl⟩)) ?_ ?_ fun _ => hk
    · intro b
      by_cases e : b = a
      · exact Or.inr ⟨_, _, yes b e⟩
      · exact Or.inl (if_neg e)
    · intro b u z
      by_cases e : b = a
      · rw [yes b e] at z
        cases z
        rw [e]
        exact ⟨ha, by rw [List.length_map]; exact hl, vs, _, vals, ha⟩
      · have z' := (if_neg e).symm.trans z
        cases z'
    · intro b z
      by_cases e : b = a
      · exact e
      · exact (z (if_neg e)).elim
  · have e := KX a o hk
    rw [ha] at e
    cases e
    refine main (fun _ => none) (fun _ => .inl rfl) (.inr ⟨_, vs.toArray, _, hk, rfl, rfl, rfl, by rw [List.size_toArray, many]; exact hl, by simpa using vals⟩) ?_ (fun b z => absurd rfl z) fun z => absurd rfl z
    intro b u z
    have z' : (none : Option HO) = some u := z
    cases z'
/-- the end, from the promise of the law's def -/
theorem walkG {l : PySem.W.OpenLaw} {n k : Nat} {q : Program} {loose : List Str} {XP : (Str → Option Value) → Heap → Prop} {YP : World → Heap → Prop} {d : DefRec} {K : Params → PySem.W.Frag} {sp : World → Sp} {x : Str}
    (hn : l.most = some n) (hn2 : n ≤ sizeLine) (hdf : d.params.defaults = []) (hr : Room k callerA) (hY : ∀ (w : World) (h : Heap), YP w h → (K w.params).In h)
    (F : ∀ (w : World) (mg : Str → Option Value) (fa : Addr) (h : Heap), (K w.params).In h → h.Ns mainGlobals mg → mg d.name = some (.ref fa) →
      ∃ fd : FuncData, (∀ (s : Shared) (u : Value), BindsTo s fd ⟨[u], []⟩ [(x, u)]) ∧ ∀ base : Heap, (K w.params).In base → base.Ns mainGlobals mg → FnG l.prog w (K w.params) mg base k fa fd [x] (sp w))
    (ask : ∀ (w : World) (H : Hp) (a : Addr) (ns : List Int), ns.length ≤ n → Only H → SqL (K w.params) H a (ns.map V.int) → sp w [.ref a] H (fun v _ => v = .bl true) fun _ _ _ => False) :
    PySem.W.WalkO q loose XP YP l.row.toRowW d [] (fun f vs => PySem.call f vs) := by
  apply Att.attach_call hn hdf
  intro w s₀ s₁ mg mb fa o pm cd doc a vs ns G Y ho hd hcd hmg hobj hints hlen hg
  obtain ⟨fd, hb, hF⟩ := F w mg fa _ (hY w _ Y) G.T.g hmg
  exact law_callG (hY w _ Y) G.T.g G.T.b G.T.builtins G.T.nolimit hg hobj hints (Nat.le_trans hlen hn2) hr hF hb fun H only sq => ask w H a ns hlen only sq
mutual
theorem Dp.noDict {K : PySem.W.Frag} {H : Hp} : ∀ {d : PyData} {v : V}, Dp K H v d → d.hasDict = false
  | _, _, .non => rfl
  | _, _, .bl _ => rfl
  | _, _, .int _ => rfl
  | _, _, .str _ => rfl
  | _, _, .lst _ a => DpAll.noDict a
  | _, _, .tup _ a => DpAll.noDict a
theorem DpAll.noDict {K : PySem.W.Frag} {H : Hp} : ∀ {ds : List PyData} {vs : List V}, DpAll K H vs ds → PyData.hasDictAll ds = false
  | _, _, .nil => rfl
  | _, _, .cons h t => by simp only [PyData.hasDictAll, Dp.noDict h, DpAll.noDict t, Bool.or_self]
end
section
variable {X : Cx}
def rRepr (K : PySem.W.Frag) : List V → Hp → VK → Prop := fun xs H Q => ∃ x d, xs = [x] ∧ Dp K H x d ∧ d.showable = true ∧ d.shown.length ≤ sizeLine ∧ d.depth ≤ 200 ∧ Q (.str d.shown) H
theorem call_reprD (hg : X.A.guards = some []) (hu : X.A.units + 220 < cLine) : CallR X (.builtin "repr") (rRepr X.K) := by
  intro pins s σ H xs us Q I r h
  obtain ⟨x, d, rfl, D, hs, hz, dd, q⟩ := h
  obtain ⟨u, rfl, rv⟩ := vals1 r
  have nd := Dp.noDict D
  cases D with
  | non => obtain rfl : u = Value.none := rv
           exact PySem.P.repr_of_none ⟨.str _, H, I.tok _, ⟨_, rfl⟩, q⟩
  | bl b => obtain rfl : u = Value.bool b := rv
            exact PySem.P.repr_of_bool ⟨.str _, H, I.tok _, ⟨_, rfl⟩, q⟩
  | int i => obtain ⟨t, rfl⟩ := rv
             exact PySem.P.repr_of_int (by simpa [PyData.showable] using hs) ⟨.str _, H, I.tok _, ⟨_, rfl⟩, q⟩
  | str z => obtain ⟨t, rfl⟩ := rv
             exact PySem.P.repr_of_str ⟨.str _, H, I.tok _, ⟨_, rfl⟩, q⟩ hz
  | lst sq al =>
    obtain ⟨as, rd⟩ := Dp.reads I _ _ _ (.lst sq al) rv
    obtain rfl := rv
    refine repr_of_reads' rd hs (fun z => by rw [nd] at z; cases z) hg (by omega) (fun _ _ e => e) ?_ hz
    intro h' u tk hk
    exact ⟨.str _, H, I.kept hk, ⟨_, rfl⟩, q⟩
  | tup sq al =>
    obtain ⟨as, rd⟩ := Dp.reads I _ _ _ (.tup sq al) rv
    obtain rfl := rv
    refine repr_of_reads' rd hs (fun z => by rw [nd] at z; cases z) hg (by omega) (fun _ _ e => e) ?_ hz
    intro h' u tk hk
    exact ⟨.str _, H, I.kept hk, ⟨_, rfl⟩, q⟩
end
end SG
/-! isinstance, in and not in, dict(a tuple of pairs), over data -/
namespace SG
open PySem PySem.Spec PyProof.Rows L2
section
variable {X : Cx}
/-- isinstance(x, T), x data -/
def rIsD (K : PySem.W.Frag) (T : String) (p : PyData → Bool) : List V → Hp → VK → Prop := fun xs H Q => ∃ x d, xs = [x, .ty T] ∧ Dp K H x d ∧ Q (.bl (p d)) H
theorem call_isInt : CallR X (.builtin "isinstance") (rIsD X.K "int" PyData.isInt) := by
  intro pins s σ H xs us Q I r h
  obtain ⟨x, d, rfl, D, q⟩ := h
  obtain ⟨u, c, rfl, rv, rc⟩ := vals2 r
  obtain rfl : c = Value.type "int" := rc
  obtain ⟨as, rd⟩ := Dp.reads I _ _ _ D rv
  exact PySem.W.isinstance_int_data rd fun tk _ => ⟨.bl _, H, I.tok tk, rfl, q⟩
theorem call_isBool : CallR X (.builtin "isinstance") (rIsD X.K "bool" PyData.isBool) := by
  intro pins s σ H xs us Q I r h
  obtain ⟨x, d, rfl, D, q⟩ := h
  obtain ⟨u, c, rfl, rv, rc⟩ := vals2 r
  obtain rfl : c = Value.type "bool" := rc
  obtain ⟨as, rd⟩ := Dp.reads I _ _ _ D rv
  exact PySem.W.isinstance_bool_data rd fun tk _ => ⟨.bl _, H, I.tok tk, rfl, q⟩
theorem call_isStr : CallR X (.builtin "isinstance") (rIsD X.K "str" PyData.isStr) := by
  intro pins s σ H xs us Q I r h
  obtain ⟨x, d, rfl, D, q⟩ := h
  obtain ⟨u, c, rfl, rv, rc⟩ := vals2 r
  obtain rfl : c = Value.type "str" := rc
  obtain ⟨as, rd⟩ := Dp.reads I _ _ _ D rv
  exact PySem.W.isinstance_str_data rd fun tk _ => ⟨.bl _, H, I.tok tk, rfl, q⟩
theorem call_isTup : CallR X (.builtin "isinstance") (rIsD X.K "tuple" PyData.isTuple) := by
  intro pins s σ H xs us Q I r h
  obtain ⟨x, d, rfl, D, q⟩ := h
  obtain ⟨u, c, rfl, rv, rc⟩ := vals2 r
  obtain rfl : c = Value.type "tuple" := rc
  obtain ⟨as, rd⟩ := Dp.reads I _ _ _ D rv
  exact PySem.W.isinstance_tuple_data rd fun tk _ => ⟨.bl _, H, I.tok tk, rfl, q⟩
/-- x in t, t a tuple of data -/
def rInT (K : PySem.W.Frag) (neg : Bool) : R2 := fun x y H Q => ∃ d es, Dp K H x d ∧ Dp K H y (.tuple es) ∧ d.plain = true ∧ PyData.plainAll es = true ∧ min (PyData.depthAll es) d.depth ≤ 64 ∧ Q (.bl (xor neg (es.any fun e => PyData.eqv e d))) H
theorem op_inT (hu : X.A.units + 70 < cLine) : OpR X (compareOp .In) (rInT X.K false) := by
  intro pins s σ H x y ux uy Q I rx ry h
  obtain ⟨d, es, D, T, pd, pe, de, q⟩ := h
  obtain ⟨as, r1⟩ := Dp.reads I _ _ _ D rx
  obtain ⟨bs, r2⟩ := Dp.reads I _ _ _ T ry
  rw [Bool.false_xor] at q
  exact PySem.SeqAt.in_tuple_data r2 r1 pe pd (by omega) ⟨.bl _, H, I, rfl, q⟩
theorem op_ninT (hu : X.A.units + 70 < cLine) : OpR X (compareOp .NotIn) (rInT X.K true) := by
  intro pins s σ H x y ux uy Q I rx ry h
  obtain ⟨d, es, D, T, pd, pe, de, q⟩ := h
  obtain ⟨as, r1⟩ := Dp.reads I _ _ _ D rx
  obtain ⟨bs, r2⟩ := Dp.reads I _ _ _ T ry
  rw [Bool.true_xor] at q
  exact PySem.SeqAt.notIn_tuple_data r2 r1 pe pd (by omega) ⟨.bl _, H, I, rfl, q⟩
end
end SG
/-! tuples of which it is known that they have no attributes of their own (dict(t) looks for them): the rules that make tuples, telling that -/
namespace SG
open PySem PySem.Spec PyProof.Rows L2 HT
theorem hin_of {A : Around} {k : Nat} (hr : Room k A) : A.units + 70 < cLine := by have := hr.un; omega
theorem hrep_of {A : Around} {k : Nat} (hr : Room (k + 2) A) : A.units + 220 < cLine := by have := hr.un; omega
def Tz (H : Hp) (a : Addr) (xs : List V) : Prop := ∃ o, H a = some (.frz o (.tup xs)) ∧ o.dict = none
theorem Tz.sq {K : PySem.W.Frag} {H : Hp} {a : Addr} {xs : List V} (h : Tz H a xs) : SqT K H a xs := by
  obtain ⟨o, e, _⟩ := h
  exact .inl (.inr ⟨o, e⟩)
/-- a new such tuple -/
def NewT (H : Hp) (xs : List V) (Q : VK) : Prop := ∀ (p : Addr) (o : Obj), H p = none → o.dict = none → Q (.ref p) (upd H p (.frz o (.tup xs)))
section
variable {X : Cx}
theorem put_tup {pins : List (Addr × Obj)} {σ : L2.St} {H : Hp} {s : Shared} {Q : VK} {xs : List V} {its : List Value} (I : L2.Inv X pins σ H s) (r : Vals xs its) (z : xs.length ≤ sizeLine) (q : NewT H xs Q) :
    EP X pins σ Q (.ref s.heap.objs.size) { s with heap := s.heap.push { cls := .type "tuple", data := .seq its.toArray } } := by
  have free : H s.heap.objs.size = none := I.hok.fresh (Nat.le_refl _)
  have kept : ∀ b u, s.heap.get? b = some u → (s.heap.push { cls := .type "tuple", data := .seq its.toArray }).get? b = some u := fun b u e => Heap.get?_push_of_some _ e
  have got : (s.heap.push { cls := .type "tuple", data := .seq its.toArray }).get? s.heap.objs.size = some { cls := .type "tuple", data := .seq its.toArray } := Heap.get?_push_size _ rfl
  refine ⟨.ref s.heap.objs.size, upd H s.heap.objs.size (.frz { cls := .type "tuple", data := .seq its.toArray } (.tup xs)), I.laid (t' := s.toks) kept (Nat.le_refl _) ?_, rfl, q _ _ free rfl⟩
  exact ⟨got, z, its, r, IsTup.new _ _⟩
/-- len(x), x a list or a tuple -/
def rLenSq (K : PySem.W.Frag) : List V → Hp → VK → Prop := fun xs H Q => ∃ p ys, xs = [.ref p] ∧ (SqL K H p ys ∨ SqT K H p ys) ∧ Q (.int ys.length) H
/-- (a, b, ..) -/
def tTupF (t : TA) : TE := fun σ H Q => t σ H fun xs H1 => xs.length ≤ sizeLine ∧ NewT H1 xs Q
theorem pe_tupF {es : List Expr} {t : TA} {pos : Pos} {x1} (h : PA X es t) : PE X (.Tuple es x1 pos) (tTupF t) := by
  constructor
  intro pins s σ H Q I hq
  apply wpAny_Tuple_spliced (thn (h.run pos pins s σ H _ I hq) ?_)
  rintro us s1 ⟨xs, H1, J, r, z, q⟩
  exact ⟨by rw [← r.length]; exact z, put_tup J r z q⟩
/-- tuple(x), x a list or a tuple -/
def kTupF (K : PySem.W.Frag) (x : V) (H : Hp) (Q : VK) : Prop :=
  (∃ p xs, x = .ref p ∧ SqL K H p xs ∧ NewT H xs Q) ∨ (∃ p xs, x = .ref p ∧ SqT K H p xs ∧ Q (.ref p) H)
theorem pe_tupleOfF {a : Expr} {ta : TE} {p pos : Pos} (hg : Gl X "tuple") (hm : X.mg "tuple" = none) (ha : PE X a ta) (na : starEach [a] X.env = (false, eval a X.env) :: starEach [] X.env := by rfl) :
    PE X (.Call (.Name "tuple" p) [a] [] pos) (tThen ta (kTupF X.K)) := by
  constructor
  intro pins s σ H Q I h
  refine Call_ (ld_blt I hg hm boot_tuple (PyProof.Rows.callWith_type1 (one_arg ha I h ?_ na) na))
  intro v s2 x H2 J r q
  rcases q with ⟨p, xs, rfl, hs, q⟩ | ⟨p, xs, rfl, hs, q⟩
  · obtain rfl : v = .ref p := r
    obtain ⟨its, rv, pl, hz⟩ := J.list hs
    refine call_tuple_list pl.isList ?_ (by rw [List.size_toArray, ← rv.length]; exact hz)
    intro h' hk
    exact put_tup (J.kept (t' := s2.toks) hk) rv hz q
  · obtain rfl : v = .ref p := r
    obtain ⟨its, rv, pl, hz⟩ := J.tuple hs
    exact call_tuple_tup pl ⟨.ref p, H2, J, rfl, q⟩
/-- t[lo:hi] -/
def rSlF (K : PySem.W.Frag) : V → Option Int → Option Int → Hp → VK → Prop := fun x lo hi H Q => ∃ a xs, x = .ref a ∧ SqT K H a xs ∧
  (HT.sIx xs.length 0 lo = 0 ∧ HT.sIx xs.length xs.length hi = xs.length → Q (.ref a) H) ∧ (¬ (HT.sIx xs.length 0 lo = 0 ∧ HT.sIx xs.length xs.length hi = xs.length) → NewT H (cutV xs lo hi) Q)
theorem sl_tupF : SlR X (rSlF X.K) := by
  intro pins s σ H x v vl vu lo hi sl Q I rx hs pl pu h
  obtain ⟨a, xs, rfl, hx, q1, q2⟩ := h
  obtain rfl : v = .ref a := rx
  obtain ⟨its, r, ht, hz⟩ := I.tuple hx
  have many : its.toArray.size = xs.length := by rw [List.size_toArray]; exact r.length.symm
  refine ⟨"tuple", _, PyProof.Rows.slot_tuple_getitem.lookup, ht.typeIs, ?_⟩
  by_cases hw : HT.sIx xs.length 0 lo = 0 ∧ HT.sIx xs.length xs.length hi = xs.length
  · exact getItem_tuple_whole ht hs pl pu (by rw [many]; exact hw) ⟨.ref a, H, I, rfl, q1 hw⟩
  · refine HT.getItem_tuple_cut ht hs pl pu (by rw [many]; exact hw) ?_ (by rw [many]; exact hz)
    rw [many]
    exact put_tup I ((r.drop (HT.sIx xs.length 0 lo)).take (HT.sIx xs.length xs.length hi - HT.sIx xs.length 0 lo)) (Nat.le_trans (cutV_length xs lo hi) hz) (q2 hw)
/-- t + u -/
def rCatF (K : PySem.W.Frag) : R2 := fun x y H Q => ∃ a b xs ys, x = .ref a ∧ y = .ref b ∧ SqT K H a xs ∧ SqT K H b ys ∧ xs.length + ys.length ≤ sizeLine ∧
  (xs = [] → Q (.ref b) H) ∧ (xs ≠ [] → ys = [] → Q (.ref a) H) ∧ (xs ≠ [] → ys ≠ [] → NewT H (xs ++ ys) Q)
theorem op_catF : OpR X (binaryOp .Add) (rCatF X.K) := by
  intro pins s σ H x y v u Q I rx ry h
  obtain ⟨a, b, xs, ys, rfl, rfl, ha, hb, hz, q0, q1, q2⟩ := h
  obtain rfl : v = .ref a := rx
  obtain rfl : u = .ref b := ry
  obtain ⟨its, r1, p1, _⟩ := I.tuple ha
  obtain ⟨its2, r2, p2, _⟩ := I.tuple hb
  by_cases hx : xs = []
  · subst hx
    cases r1
    exact cat_tup0 p1 p2 ⟨.ref b, H, I, rfl, q0 rfl⟩
  · refine HT.cat_tup p1 p2 (fun z => hx (r1.nil_iff.mp z)) (fun z => ⟨.ref a, H, I, rfl, q1 hx (r2.nil_iff.mp z)⟩) (fun z => ?_) (by rw [← r1.length, ← r2.length]; exact hz)
    exact put_tup I (r1.append r2) (by rw [List.length_append]; exact hz) (q2 hx fun w => z (r2.nil_iff.mpr w))
/-- t[::-1] -/
def tRevF (K : PySem.W.Frag) (te : TE) : TE := fun σ H Q => te σ H fun x H1 => ∃ a xs, x = .ref a ∧ SqT K H1 a xs ∧ NewT H1 xs.reverse Q
theorem places_back (n : Nat) : Builtin.Slice.slicePlaces ((n : Int) - 1) (-1) (-1) = n := by
  unfold Builtin.Slice.slicePlaces
  have h1 : ¬ ((-1 : Int) > 0) := by decide
  simp only [h1, if_false]
  split
  · have e : ((n : Int) - 1 - -1 - 1) / (- -1) = (n : Int) - 1 := by
      rw [show (- -1 : Int) = 1 by decide, Int.ediv_one]; omega
    rw [e]; omega
  · omega
theorem fm_congr {α β : Type} {f g : α → Option β} : ∀ {l : List α}, (∀ x ∈ l, f x = g x) → l.filterMap f = l.filterMap g
  | [], _ => rfl
  | x :: l, h => by
    rw [List.filterMap_cons, List.filterMap_cons, h x (by simp), fm_congr fun y hy => h y (by simp [hy])]
theorem pick_back (xs : Array Value) : ((List.range xs.size).filterMap fun (m : Nat) => xs[(((xs.size : Int) - 1) + (m : Int) * -1).toNat]?).toArray = xs.toList.reverse.toArray := by
  have e : ((List.range xs.size).filterMap fun (m : Nat) => xs[(((xs.size : Int) - 1) + (m : Int) * -1).toNat]?) = ((List.range xs.size).map fun k => xs.size - 1 - k).filterMap (xs[·]?) := by
    rw [List.filterMap_map]
    apply fm_congr
    intro m hm
    have := List.mem_range.mp hm
    show xs[_]? = xs[xs.size - 1 - m]?
    congr 1
    omega
  rw [e, PySem.W.krv_range, List.filterMap_reverse, PySem.W.krv_all]
theorem getItem_tuple_back {prog : Program} {w : World} {A : Around} {E : Value → Shared → Prop} {s : Shared} {t sl : Addr} {items : Array Value} {tk : Tok} {Q : Value → Shared → Prop} (ht : IsTup s.heap t items) (hs : s.heap.IsSliceOf sl .none .none (.int (-1) tk))
    (h : Q (.ref s.heap.objs.size) { s with heap := s.heap.push { cls := .type "tuple", data := .seq items.toList.reverse.toArray } })
    (hsz : items.size ≤ sizeLine) : wpAny (model prog w) A (getItem (.ref t) (.ref sl)) Q E s := by
  obtain ⟨os, hos, hcs, hds⟩ := id hs
  have hTs : s.TypeIs (.ref sl) "slice" := ⟨os, hos, hcs⟩
  unfold getItem
  try with_reducible refine wpAny_holding ?_
  first | refine wpAny_bind (wpAny_pure ?_) | skip
  apply wpAny_bind
  apply wpAny_sequenceKey ht.typeIs (by decide)
  apply wpAny_bind
  apply wpAny_callSpecial?_slot (name := Str.ofString "__getitem__") ht.typeIs PyProof.Rows.slot_tuple_getitem
  apply wpAny_call_entry PyProof.Rows.slot_tuple_getitem ht.typeIs entry_tuple_getitem ?_ (args_tuple_getitem _ _)
  show wpAny _ _ (Builtin.Tuple.tupleItemsOf (.ref t) >>= _) _ _ s
  apply wpAny_bind
  apply tupleItemsOf_ ht
  apply wpAny_bind
  apply wpAny_typeOf hTs
  rw [if_pos (by decide)]
  apply wpAny_bind
  unfold Builtin.Slice.sliceApplied Builtin.Slice.sliceFields
  refine wpAny_bind (wpAny_bind (wpAny_field hos hds (x := .none) rfl (wpAny_bind (wpAny_field hos hds (x := .none) rfl (wpAny_bind (wpAny_field hos hds (x := .int (-1) tk) rfl (wpAny_pure ?_)))))))
  refine wpAny_bind (slicePart_int ?_)
  show wpAny _ _ (if ((-1 : Int) == 0) = true then _ else _) _ _ s
  rw [if_neg (by decide)]
  refine wpAny_bind (slicePart_none (wpAny_bind (slicePart_none (wpAny_bind (wpAny_pure ?_)))))
  show wpAny _ _ (pure (((items.size : Int) - 1), (-1 : Int), Builtin.Slice.slicePlaces ((items.size : Int) - 1) (-1) (-1))) _ _ s
  rw [places_back]
  apply wpAny_pure
  have no : ¬ (((((items.size : Int) - 1) == 0 && (-1 : Int) == 1) && items.size == items.size) = true) := by simp
  show wpAny _ _ (if ((((items.size : Int) - 1) == 0 && (-1 : Int) == 1) && items.size == items.size) = true then _ else _) _ _ s
  rw [if_neg no, pick_back]
  have ok : sizeOk (.seq items.toList.reverse.toArray) := by
    show items.toList.reverse.toArray.size ≤ sizeLine
    rw [List.size_toArray, List.length_reverse, Array.length_toList]; exact hsz
  first
    | exact wpAny_bind (m := Builtin.Tuple.tupleExact _) (wpAny_newObj_type (wpAny_pure ⟨_, rfl, wpAny_pure h⟩) ok)
    | exact wpAny_bind (m := Builtin.Tuple.tupleExact _) (wpAny_newObj_type (wpAny_bind (wpAny_pure (wpAny_pure ⟨_, rfl, wpAny_pure h⟩))) ok)
theorem pe_revF {e : Expr} {te : TE} {j : Nat} {p0 p1 p2 pos : Pos} (he : PE X e te) : PE X (.Subscript e (.Slice none none (some (.UnaryOp .USub (.Constant (.int 1) j p0) p1)) p2) pos) (tRevF X.K te) := by
  have hs : PO X (some (.UnaryOp .USub (.Constant (.int 1) j p0) p1)) _ := po_some (pe_un un_neg pe_int)
  constructor
  intro pins s σ H Q I h
  refine Subscript_ (thn (he.run pins s σ H _ I h) ?_)
  rintro v s1 ⟨x, H1, I1, r1, a, xs, rfl, sq, q⟩
  obtain rfl : v = .ref a := r1
  refine wpAny_Slice ?_
  rw [evalPart_none]
  refine wpAny_pure ?_
  refine wpAny_pure ?_
  refine thn (hs.run pins s1 σ H1 (fun o H2 => o = some (-1) ∧ H2 = H1) I1 ?_) ?_
  · exact ⟨_, rfl, _, rfl, rfl, rfl⟩
  rintro vk s3 ⟨u, H3, I3, pu, rfl, rfl⟩
  obtain ⟨tk, rfl⟩ : ∃ tk, vk = .int (-1) tk := by
    cases pu with
    | int i t => exact ⟨t, rfl⟩
  have I4 : L2.Inv X pins σ H3 { s3 with heap := s3.heap.push { cls := .type "slice", data := .fields #[.none, .none, .int (-1) tk] } } := I3.kept (t' := s3.toks) fun b ob q => Heap.get?_push_of_some _ q
  obtain ⟨its, r, ht, hz⟩ := I4.tuple sq
  have many : its.toArray.size = xs.length := by rw [List.size_toArray]; exact r.length.symm
  have done := getItem_tuple_back (prog := X.prog) (w := X.w) (A := X.A) (E := X.xe) (Q := EP X pins σ Q) ht (Heap.IsSliceOf.new ..) (put_tup I4 (by simpa using r.reverse) (by rw [List.length_reverse]; exact hz) q) (by rw [many]; exact hz)
  exact tail_any (ops := [.ref a, .ref s3.heap.objs.size]) ht.typeIs PyProof.Rows.slot_tuple_getitem.lookup done (by with_unfolding_all rfl)
/-- a target x, y -/
theorem pg_two {K : PySem.W.Frag} {i j k : Nat} {x y : Str} {p1 p2 pos : Pos} (hK : X.K = K) (hc : X.calm = true) (hN : X.N.Nodup) (hi : X.N[i]? = some x) (hj : X.N[j]? = some y) (hx : Loc X.env.scope x) (hy : Loc X.env.scope y)
    (fx : X.fn x = true ∨ X.env.scope.names.lookup x = some .local := by first | exact .inl rfl | exact .inr rfl) (fy : X.fn y = true ∨ X.env.scope.names.lookup y = some .local := by first | exact .inl rfl | exact .inr rfl) :
    PG X (.Tuple [.Name x p1, .Name y p2] k pos) (gTup K 2 (gCons (gName i) (gCons (gName j) gNil))) := by
  subst hK
  exact pg_tup hc (pgs_cons (pg_name hN hi hx fx) (pgs_cons (pg_name hN hj hy fy) pgs_nil))
/-- the pairs as they lie -/
theorem pairs_raw {pins : List (Addr × Obj)} {σ : L2.St} {H : Hp} {s : Shared} (I : L2.Inv X pins σ H s) : ∀ {ps : List Addr} {kvs : List (Key × V)}, Paired (fun p kv => SqT X.K H p [kV kv.1, kv.2]) ps kvs →
    ∃ (raw : List (Value × Value)) (prs : List (Key × Value)), KV kvs prs ∧ raw.length = ps.length ∧ prs.length = ps.length ∧
      ∀ (j : Nat) (k v : Value), raw[j]? = some (k, v) → (∃ b, ps[j]? = some b ∧ IsTup s.heap b #[k, v]) ∧ ∃ key, prs[j]? = some (key, v) ∧ keyIs key k = true
  | _, _, .nil => ⟨[], [], .nil, rfl, rfl, fun j k v e => by simp at e⟩
  | _, _, .cons (a := p) (b := kv) h t => by
    obtain ⟨raw, prs, r, h1, h2, hp⟩ := pairs_raw I t
    obtain ⟨its, rv, ht, _⟩ := I.tuple h
    obtain ⟨u, y, ei, ru, ry⟩ := vals2 rv
    subst ei
    refine ⟨(u, y) :: raw, (kv.1, y) :: prs, .cons ⟨rfl, ry⟩ r, by simp [h1], by simp [h2], ?_⟩
    intro j k v e
    cases j with
    | zero =>
      cases e
      exact ⟨⟨p, rfl, ht⟩, kv.1, rfl, kV_is (P := X.prog) (w := X.w) ru⟩
    | succ j => simpa using hp j k v (by simpa using e)
/-- dict(t), t a tuple of pairs -/
theorem call_dictT (hcalm : X.calm = true) : CallR X (.type "dict") (fun xs H Q => ∃ (a : Addr) (ps : List Addr) (kvs : List (Key × V)), xs = [.ref a] ∧ Tz H a (ps.map V.ref) ∧ Paired (fun p kv => SqT X.K H p [kV kv.1, kv.2]) ps kvs ∧
    ∀ p, H p = none → Q (.ref p) (upd H p (.dK (mergeK [] kvs)))) := by
  intro pins s σ H xs us Q I r q
  obtain ⟨a, ps, kvs, rfl, hq, hp, q⟩ := q
  obtain ⟨u, rfl, rx⟩ := vals1 r
  obtain rfl : u = Value.ref a := rx
  obtain ⟨o, ea, hd⟩ := hq
  obtain ⟨ho0, hz, its, rv, o1, ho, hc, n, hdat⟩ := (show ObjOk X.prog X.w H s.heap a (.frz o (.tup (ps.map V.ref))) from I.hok a _ ea)
  rw [ho0] at ho
  cases ho
  obtain rfl := refs_at rv
  rw [List.length_map] at hz
  obtain ⟨raw, prs, rel, l1, l2, hpr⟩ := pairs_raw I hp
  have P := PairArg.tuple (prog := X.prog) (w := X.w) a (ps.map Value.ref).toArray (fun j => ps.getD j 0) raw
  refine PySem.call_dict_pairs (knd := mixKind X.prog X.w) (kvs := prs) P (I.ok.hd hcalm) ⟨⟨o, n, ho0, hc, hd, hdat⟩, by simp [l1], ?_⟩ ⟨by rw [l1, l2], ?_⟩ (by rw [l1]; exact hz) ?_
  · intro j k v e
    obtain ⟨⟨b, hb, ht⟩, _⟩ := hpr j k v e
    have eb : ps.getD j 0 = b := by simp [List.getD, hb]
    exact ⟨by simp [eb, hb], .inl (by show s.heap.IsTuple (ps.getD j 0) _; rw [eb]; exact ht)⟩
  · intro j k v e
    obtain ⟨_, key, e1, e2⟩ := hpr j k v e
    exact ⟨key, e1, e2⟩
  · intro h' tk hd' k
    have k' : ∀ b o, s.heap.get? b = some o → h'.get? b = some o := fun b o e => k b o (by simp) e
    have hm : (s.heap.objs.size == sysModules) = false := beq_eq_false_iff_ne.mpr (Nat.ne_of_gt I.big)
    have hlen : (mergeK [] kvs).length ≤ sizeLine := by
      have := length_mergeK kvs []
      rw [List.length_nil, Nat.zero_add, rel.length, l2] at this
      omega
    exact ⟨.ref s.heap.objs.size, upd H s.heap.objs.size (.dK (mergeK [] kvs)), I.laid (t' := tk) k' (Nat.le_refl _) (show ObjOk X.prog X.w _ _ _ (.dK (mergeK [] kvs)) from ⟨hlen, hm, merged [] prs, KV.merge rel .nil, hd'⟩), rfl, q _ (I.hok.fresh (Nat.le_refl _))⟩
end
end SG
namespace SG
open PySem PySem.Spec PyProof.Rows L2
/-! ### discard from a set of numbers -/
theorem erase_list {α : Type} (xs : Array α) (i : Nat) : (SetTable.eraseAt xs i).toList = xs.toList.take i ++ xs.toList.drop (i + 1) := by
  unfold SetTable.eraseAt
  rw [Array.toList_append, Array.toList_extract, Array.toList_extract]
  simp [List.extract_eq_drop_take]
  rw [List.take_of_length_le (by rw [List.length_drop, Array.length_toList]; omega)]
theorem split_at {α : Type} : ∀ {l : List α} {i : Nat} {x : α}, l[i]? = some x → l = l.take i ++ x :: l.drop (i + 1)
  | [], i, x, h => by simp at h
  | y :: r, 0, x, h => by
    simp at h
    subst h
    simp
  | y :: r, i + 1, x, h => by
    have h' : r[i]? = some x := by simpa using h
    show y :: r = y :: (r.take i ++ x :: r.drop (i + 1))
    rw [← split_at h']
theorem insert_size {α : Type} (xs : Array α) (i : Nat) (x : α) : (SetTable.insertAt xs i x).size = xs.size + 1 := by
  unfold SetTable.insertAt
  simp only [Array.size_append, Array.size_push, Array.size_extract]
  omega
theorem erase_size {α : Type} (xs : Array α) (i : Nat) (h : i < xs.size) : (SetTable.eraseAt xs i).size + 1 = xs.size := by
  unfold SetTable.eraseAt
  simp only [Array.size_append, Array.size_extract]
  omega
section
variable {P : Program} {w : World} {A : Around} {E : Value → Shared → Prop} {s : Shared} {a : Addr} {S : Int → Bool} {n : Nat}
/-- found.discard(k) -/
theorem setR_discard_hashed {k : Int} {tk : Tok} {Q : Bool → Shared → Prop} (R : SetR w s.heap a S n)
    (hQ : ∀ h' b, Heap.SameBut a s.heap h' → SetR w h' a (fun j => S j && !decide (j = k)) (if S k = true then n - 1 else n) → Q b { s with heap := h' }) :
    wpAny (model P w) A (setDiscardHashed a (.int k tk) ((intKind P w).hash k)) Q E s := by
  obtain ⟨o, es, ep, t, ho, hex, hd, g, nd, hm, hb, hf, hn, hr, hl⟩ := R
  have hkey : (intKind P w).is k (.int k tk) = true := intKind_is P w k tk
  have hsc : (Value.int k tk).scannable = true := rfl
  have hel : ElemsOf (intKind P w) es.toList := good_elems g
  unfold setDiscardHashed setFind setFindIn
  refine wpAny_bind (wpAny_bind (wpAny_setState_of ho hd hf ?_))
  dsimp only
  rw [byScan_of hsc hb hel]
  simp only [↓reduceIte]
  refine wpAny_bind (wpAny_rule ?_)
  refine wpAny_bind (wpAny_setScan_of hkey ho hd hf hel ?_)
  cases hfi : List.findIdx? (fun e => (intKind P w).is k e.2) es.toList with
  | none =>
    dsimp only
    have hnk : k ∉ es.toList.map keyOf := fun z => by
      obtain ⟨e, he, q⟩ := (good_mem (P := P) (w := w) g k).1 z
      have c := List.findIdx?_eq_none_iff.mp hfi e he
      rw [q] at c
      cases c
    have hSk : S k = false := by
      cases q : S k with
      | false => rfl
      | true => exact absurd ((hm k).1 q) hnk
    refine wpAny_pure (wpAny_pure ?_)
    have q := hQ s.heap false (Heap.SameBut.refl a s.heap) ⟨o, es, ep, t, ho, hex, hd, g, nd, fun i => by
      rw [Bool.and_eq_true, hm i]
      constructor
      · exact fun z => z.1
      · intro z
        refine ⟨z, ?_⟩
        have : ¬ i = k := fun e => hnk (e ▸ z)
        simp [this], hb, hf, by rw [hSk]; simpa using hn, hr, hl⟩
    exact q
  | some j =>
    dsimp only
    obtain ⟨hj, pj, _⟩ := List.findIdx?_eq_some_iff_getElem.mp hfi
    have hj' : j < es.size := by rw [← Array.length_toList]; exact hj
    have kj : keyOf es.toList[j] = k := (good_is (P := P) (w := w) (g _ (List.getElem_mem hj)) k).1 pj
    have hSk : S k = true := (hm k).2 ((good_mem (P := P) (w := w) g k).2 ⟨es.toList[j], List.getElem_mem hj, pj⟩)
    have hfs : t.place.size = es.size ∧ t.fill ≤ t.mask := by
      simpa [SetTable.fits, Bool.and_eq_true, beq_iff_eq, decide_eq_true_eq] using hf
    obtain ⟨pl, hpl⟩ : ∃ q, t.place[j]? = some q := ⟨_, Array.getElem?_eq_getElem (by omega)⟩
    have hdrop : t.drop j = { t with place := SetTable.eraseAt t.place j, dummies := SetTable.insertAt t.dummies (SetTable.below t.dummies pl) pl } := by
      unfold SetTable.drop
      rw [hpl]
    have sp := split_at (List.getElem?_eq_getElem hj)
    have el := erase_list es j
    have perm : es.toList.Perm (es.toList[j] :: (SetTable.eraseAt es j).toList) := by
      rw [el]
      conv => lhs; rw [sp]
      exact List.perm_middle
    have pk : (es.toList.map keyOf).Perm (k :: (SetTable.eraseAt es j).toList.map keyOf) := by
      have := perm.map keyOf
      rw [List.map_cons, kj] at this
      exact this
    have nd2 := pk.nodup_iff.mp nd
    obtain ⟨nk, nd3⟩ := List.nodup_cons.mp nd2
    have sz := erase_size es j hj'
    have hf2 : (t.drop j).fits (SetTable.eraseAt es j).size = true := by
      rw [hdrop]
      have z1 := erase_size t.place j (by omega)
      have z2 := insert_size t.dummies (SetTable.below t.dummies pl) pl
      have z3 : t.place.size + t.dummies.size ≤ t.mask := hfs.2
      show ((SetTable.eraseAt t.place j).size == (SetTable.eraseAt es j).size && decide ((SetTable.eraseAt t.place j).size + (SetTable.insertAt t.dummies (SetTable.below t.dummies pl) pl).size ≤ t.mask)) = true
      have hp := hfs.1
      rw [Bool.and_eq_true, beq_iff_eq, decide_eq_true_eq]
      omega
    have hr2 : Ris (t.drop j).place.toList := by
      rw [hdrop]
      show Ris (SetTable.eraseAt t.place j).toList
      rw [erase_list]
      have sub : (t.place.toList.take j ++ t.place.toList.drop (j + 1)).Sublist t.place.toList := by
        have q : t.place.toList[j]? = some pl := by rw [Array.getElem?_toList]; exact hpl
        conv => rhs; rw [split_at q]
        exact List.Sublist.append (List.Sublist.refl _) (List.sublist_cons_self _ _)
      exact List.Pairwise.sublist sub hr
    have hl2 : w.params.followText "set-order" = true ∨ (t.drop j).led = true := by
      rw [hdrop]
      exact hl
    have hb2 : (SetTable.eraseAt es j).size < scanBound := by omega
    refine wpAny_pure ?_
    dsimp only
    refine wpAny_bind (wpAny_setState_of ho hd hf ?_)
    dsimp only
    rw [Nat.zero_add]
    refine wpAny_bind (wpAny_storeSet_of ho hd ?_ (fits_of_scanBound hb2))
    refine wpAny_bind (wpAny_point ?_)
    refine wpAny_pure (hQ _ true (Heap.SameBut.update s.heap a _) ?_)
    have ho1 := store_at (es' := SetTable.eraseAt es j) (t' := t.drop j) ho hd
    refine ⟨_, _, _, _, ho1, hex, rfl, fun e he => g e (perm.mem_iff.mpr (List.mem_cons_of_mem _ he)), nd3, fun i => ?_, hb2, hf2, ?_, hr2, hl2⟩
    · rw [Bool.and_eq_true, hm i, pk.mem_iff, List.mem_cons]
      constructor
      · rintro ⟨e | e, q⟩
        · simp [e] at q
        · exact e
      · intro z
        have : ¬ i = k := fun e => nk (e ▸ z)
        exact ⟨.inr z, by simp [this]⟩
    · rw [if_pos hSk]
      omega
theorem setR_discard {k : Int} {tk : Tok} {Q : Value → Shared → Prop} (R : SetR w s.heap a S n)
    (hQ : ∀ h', Heap.SameBut a s.heap h' → SetR w h' a (fun j => S j && !decide (j = k)) (if S k = true then n - 1 else n) → Q .none { s with heap := h', toks := s.toks + 1 }) :
    wpAny (model P w) A (call (.builtin "set.discard") [.ref a, .int k tk]) Q E s := by
  have hS : s.heap.SetOf (intKind P w) a S n := R.setOf
  refine wpAny_call_entry PySem.F.slot_set_discard hS.typeIs PySem.F.entry_set_discard ?_ (PySem.F.args_set_discard_2 _ _)
  unfold Builtin.«set.discard» Builtin.Frozenset.oneOther
  simp only [List.isEmpty_nil, bind_assoc]
  unfold Builtin.Frozenset.addrOf Builtin.Frozenset.withSetAsKey setDiscard
  refine wpAny_bind (wpAny_pure ?_)
  try dsimp only
  refine wpAny_bind (wpAny_pure ?_)
  try dsimp only
  refine wpAny_bind (wpAny_tryCatch ?_)
  refine wpAny_holding ?_
  refine wpAny_bind ((intKind P w).pyHash (intKind_is P w k tk) ?_)
  refine setR_discard_hashed (s := { s with toks := s.toks + 1 }) R fun h' b sb r => ?_
  show wpAny _ _ (ret Value.none) _ _ _
  exact wpAny_pure ⟨_, rfl, hQ h' sb r⟩
end
section
variable {X : Cx}
/-- found.discard(k) -/
def rSDis (w : World) : V → List V → Hp → VK → Prop := fun x xs H Q => ∃ (a : Addr) (k : Int) (S : Int → Bool) (n : Nat), x = V.ref a ∧ xs = [V.int k] ∧ H a = some (SetO w a S n) ∧
  Q .non (upd H a (SetO w a (fun j => S j && !decide (j = k)) (if S k = true then n - 1 else n)))
theorem mt_sdis : MtR X "set.discard" (rSDis X.w) := by
  intro pins s σ H x xs v us Q I rx rxs h
  obtain ⟨a, k, S, n, rfl, rfl, ha, q⟩ := h
  cases rx
  cases rxs with
  | cons ry rt =>
    cases rt
    obtain ⟨tk, rfl⟩ := ry
    have R := setO_get I ha
    refine setR_discard R fun h' sb new => ?_
    have he : ∃ u, h'.get? a = some u := by
      have ⟨o, _, _, _, ho, _⟩ := new
      exact ⟨o, ho⟩
    exact ⟨.non, upd H a (SetO X.w a (fun j => S j && !decide (j = k)) (if S k = true then n - 1 else n)), I.write (e := a) (t' := s.toks + 1) (by rw [ha]; trivial) (.inl rfl) (fun b u hb hu => (sb.2 b hb).trans hu) he (setO_new new), rfl, q⟩
def tSDis (w : World) (to : TE) (t : TA) : TE := fun σ H Q => to σ H fun x H1 => (∃ a S n, x = V.ref a ∧ H1 a = some (SetO w a S n)) ∧ t σ H1 fun xs H2 => rSDis w x xs H2 Q
variable {o e : Expr} {es : List Expr} {to : TE} {t : TA} {apos cpos : Pos}
theorem pe_sdis (ho : PE X o to) (ha : PA X (e :: es) t)
    (hbase : attributeBase o "discard" X.env (eval o X.env) = eval o X.env := by rfl)
    (hfew : ((backTo cpos (starEach (e :: es) X.env)).all (fun x => !x.1) && (backToKw cpos (keywordEach [] X.env)).all (fun x => x.1.isSome)
      && decide ((e :: es).length + ([] : List Keyword).length + (if ([] : List Keyword).isEmpty then 0 else 1) < 30)) = true := by rfl)
    (hline : (apos.endLine == cpos.line) = true := by rfl) (hs : starEach (e :: es) X.env = (false, eval e X.env) :: starEach es X.env := by rfl) (hplain : (backTo cpos (starEach es X.env)).any (·.1) = false := by rfl) :
    PE X (.Call (.Attribute o "discard" apos) (e :: es) [] cpos) (tSDis X.w to t) := by
  refine ⟨fun pins s σ H Q I h => ?_⟩
  refine wpAny_Call_method_late hbase hfew hline rfl (thn (ho.run pins s σ H _ I h) fun v s1 ⟨x, H1, I1, r1, ty, q1⟩ => ?_)
  obtain ⟨a, S, n, rfl, hka⟩ := ty
  have R := setO_get I1 hka
  cases r1
  have hS : s1.heap.SetOf (intKind X.prog X.w) a S n := R.setOf
  refine ⟨"set", "set.discard", PySem.F.plainAttrs_set, PySem.F.slot_set_discard, PySem.F.type_set_discard, hS.typeIs, hS.noDict, ?_⟩
  have hA := ha.run cpos pins s1 σ H1 _ I1 q1
  rw [hs] at hA ⊢
  refine Calls.callWith_builtin (by show (false || (backTo cpos (starEach es X.env)).any (·.1)) = false; rw [hplain] <;> rfl) (Calls.evalArgs_plain ?_)
  exact thn hA fun us s2 ⟨vs, H2, I2, r2, q2⟩ => mt_sdis pins s2 σ H2 (.ref a) vs (.ref a) us Q I2 rfl r2 q2
end
end SG
namespace SG
open PySem PySem.Spec PyProof.Rows L2
section
variable {X : Cx} {e : Expr} {te : TE}
/-- a bound of a slice that may be None -/
def tPartO (t : TE) : TO := fun σ H Q => t σ H fun x H1 => (x = .non ∧ Q none H1) ∨ ∃ i, x = .int i ∧ Q (some i) H1
theorem po_opt (h : PE X e te) : PO X (some e) (tPartO te) := by
  refine ⟨fun pins s σ H Q I hw => ?_⟩
  rw [evalPart_some]
  refine thn (h.run pins s σ H _ I hw) fun u s1 ⟨x, H1, I1, r1, q1⟩ => ?_
  rcases q1 with ⟨rfl, q⟩ | ⟨i, rfl, q⟩
  · obtain rfl : u = Value.none := r1
    exact ⟨none, H1, I1, .none, q⟩
  · obtain ⟨t, rfl⟩ := r1
    exact ⟨some i, H1, I1, .int i t, q⟩
/-- str(x), x a number or a text -/
def rStrIS : List V → Hp → VK → Prop := fun xs H Q => (∃ i, xs = [.int i] ∧ i.natAbs.log2 < 1920 ∧ Q (.str (toString i)) H) ∨ ∃ a, xs = [.str a] ∧ Q (.str a) H
theorem call_strIS : CallR X (.type "str") rStrIS := by
  intro pins s σ H xs us Q I r h
  rcases h with h | h
  · exact call_str_int pins s σ H xs us Q I r h
  · exact SkE.call_str_str pins s σ H xs us Q I r h
end
end SG
namespace SG
open PySem PySem.Spec PyProof.Rows L2
/-! ### data in a heap that grows -/
theorem same_sqT {K : PySem.W.Frag} {H H' : Hp} {a : Addr} {xs : List V} (e : Same H H') (h : SqT K H a xs) : SqT K H' a xs := Same.tup e h
theorem same_sqL {K : PySem.W.Frag} {H H' : Hp} {a : Addr} {xs : List V} (e : Same H H') (h : SqL K H a xs) : SqL K H' a xs := by
  rcases h with (h | ⟨o, h⟩) | h
  · exact .inl (.inl (e _ _ h))
  · exact .inl (.inr ⟨o, e _ _ h⟩)
  · exact .inr h
mutual
theorem Dp.same {K : PySem.W.Frag} {H H' : Hp} (e : Same H H') : ∀ {d : PyData} {v : V}, Dp K H v d → Dp K H' v d
  | _, _, .non => .non
  | _, _, .bl b => .bl b
  | _, _, .int i => .int i
  | _, _, .str x => .str x
  | _, _, .lst a b => .lst (same_sqL e a) (DpAll.same e b)
  | _, _, .tup a b => .tup (same_sqT e a) (DpAll.same e b)
theorem DpAll.same {K : PySem.W.Frag} {H H' : Hp} (e : Same H H') : ∀ {ds : List PyData} {vs : List V}, DpAll K H vs ds → DpAll K H' vs ds
  | _, _, .nil => .nil
  | _, _, .cons h t => .cons (Dp.same e h) (DpAll.same e t)
end
mutual
theorem Dp.plain {K : PySem.W.Frag} {H : Hp} : ∀ {d : PyData} {v : V}, Dp K H v d → d.plain = true
  | _, _, .non => rfl
  | _, _, .bl _ => rfl
  | _, _, .int _ => rfl
  | _, _, .str _ => rfl
  | _, _, .lst _ a => DpAll.plain a
  | _, _, .tup _ a => DpAll.plain a
theorem DpAll.plain {K : PySem.W.Frag} {H : Hp} : ∀ {ds : List PyData} {vs : List V}, DpAll K H vs ds → PyData.plainAll ds = true
  | _, _, .nil => rfl
  | _, _, .cons h t => by
    show (PyData.plain _ && PyData.plainAll _) = true
    rw [Dp.plain h, DpAll.plain t]; rfl
end
theorem DpAll.len {K : PySem.W.Frag} {H : Hp} : ∀ {ds : List PyData} {vs : List V}, DpAll K H vs ds → vs.length = ds.length
  | _, _, .nil => rfl
  | _, _, .cons _ t => by simp [DpAll.len t]
theorem DpAll.get {K : PySem.W.Frag} {H : Hp} : ∀ {ds : List PyData} {vs : List V}, DpAll K H vs ds → ∀ {i : Nat} {d : PyData}, ds[i]? = some d → ∃ v, vs[i]? = some v ∧ Dp K H v d
  | _, _, .nil, i, d, h => by simp at h
  | _, _, .cons a t, 0, d, h => by
    simp only [List.getElem?_cons_zero, Option.some.injEq] at h
    subst h
    exact ⟨_, rfl, a⟩
  | _, _, .cons a t, i + 1, d, h => by
    simp only [List.getElem?_cons_succ] at h
    obtain ⟨v, e, q⟩ := DpAll.get t h
    exact ⟨v, by simpa using e, q⟩
theorem dp_strs {K : PySem.W.Frag} {H : Hp} : ∀ ss : List Str, DpAll K H (ss.map V.str) (ss.map PyData.str)
  | [] => .nil
  | s :: ss => .cons (.str s) (dp_strs ss)
def bet (d : PyData) (lo hi : Int) : Bool := match d with | .int i => decide (lo ≤ i) && decide (i ≤ hi) | _ => false
def inL (ss : List Str) (d : PyData) : Bool := (ss.map PyData.str).any fun e => PyData.eqv e d
theorem eqv_str {a : Str} {d : PyData} (h : PyData.eqv (.str a) d = true) : d = .str a := by
  cases d <;> simp [PyData.eqv] at h
  · rw [h]
theorem inL_str {ss : List Str} {d : PyData} (h : inL ss d = true) : ∃ s, s ∈ ss ∧ d = .str s := by
  unfold inL at h
  rw [List.any_map, List.any_eq_true] at h
  obtain ⟨s, hs, e⟩ := h
  exact ⟨s, hs, eqv_str e⟩
theorem inL_of {ss : List Str} {s : Str} (h : s ∈ ss) : inL ss (.str s) = true := by
  unfold inL
  rw [List.any_map, List.any_eq_true]
  exact ⟨s, h, by simp [PyData.eqv]⟩
def rowN (n : Nat) : PyData → Bool
  | .tuple ds => decide (ds.length = n)
  | _ => false
theorem Dp.tupOf {K : PySem.W.Frag} {H : Hp} {x : V} {ds : List PyData} (h : Dp K H x (.tuple ds)) : ∃ a xs, x = .ref a ∧ SqT K H a xs ∧ DpAll K H xs ds := by
  cases h with
  | tup a b => exact ⟨_, _, rfl, a, b⟩
theorem inV_strs (s : Str) (ss : List Str) : inV (.str s) (ss.map V.str) = ss.any (· == s) := by
  unfold inV
  rw [List.any_map]
  rfl
theorem inL_strs (ss : List Str) (z : Str) : inL ss (.str z) = ss.any (· == z) := by
  unfold inL
  rw [List.any_map]
  induction ss with
  | nil => rfl
  | cons s r ih =>
    rw [List.any_cons, List.any_cons, ih]
    rfl
end SG
namespace SG
open PySem PySem.Spec PyProof.Rows L2
/-- a def with keyword-only parameters, called without them -/
structure ClD (P : Program) (w : World) (K : PySem.W.Frag) (mg : Str → Option Value) (base : Heap) (k : Nat) (x : Str) (dv : List V) (sp : Sp) : Prop where
  ex : ∃ (f : Addr) (fd : FuncData) (ps : List Str) (ds : List Value), FnOk P w K mg base CX0 k f fd ps sp ∧ mg x = some (.ref f) ∧ PySem.W.keepIn K (.ref f) = true ∧ Binds K fd ps ds ∧ Vals dv ds
/-- with them -/
structure ClK (P : Program) (w : World) (K : PySem.W.Frag) (mg : Str → Option Value) (base : Heap) (k : Nat) (x : Str) (n : Nat) (ks : List Str) (sp : Sp) : Prop where
  ex : ∃ (f : Addr) (fd : FuncData) (ps : List Str), FnOk P w K mg base CX0 k f fd ps sp ∧ mg x = some (.ref f) ∧ PySem.W.keepIn K (.ref f) = true ∧ KBn K fd ps n ks (fun us ws => us ++ ws) (fun vs zs => vs ++ zs)
structure DfK (K : PySem.W.Frag) (mg : Str → Option Value) (x : Str) (st : Stmt) (ps : List Str) (n : Nat) (ks : List Str) (dv : List V) : Prop where
  ex : ∃ (f : Addr) (fd : FuncData) (ds : List Value), Fun K x x st f fd ∧ mg x = some (.ref f) ∧ Binds K fd ps ds ∧ Vals dv ds ∧ KBn K fd ps n ks (fun us ws => us ++ ws) (fun vs zs => vs ++ zs)
theorem DfK.ok {P : Program} {w : World} {K : PySem.W.Frag} {mg : Str → Option Value} {base : Heap} {x : Str} {st : Stmt} {N ps ks : List Str} {n k : Nat} {dv : List V} {sp : Sp} (D : DfK K mg x st ps n ks dv) (S : FnScope N ps (defScope st)) (len : ∀ vs H Q E, sp vs H Q E → vs.length = ps.length)
    (hbody : ∀ (f : Addr) (cdv : Value) (A : Around) (outer : List Env) (s : Shared) (H : Hp) (vs : List V) (Q : VK) (E : XK), Room k (A.deeper (envOfC x (defScope st) s.heap.objs.size f cdv)) → sp vs H Q E →
      ∃ t, PSs (cxOf CX0 P w K mg base N x (defScope st) f cdv A outer s H E).nox (defBody st) t ∧ t { nx := fun _ H' => Q .non H', rt := Q } (start N vs) H) : ClK P w K mg base (k + 1) x n ks sp ∧ ClD P w K mg base (k + 1) x dv sp := by
  obtain ⟨f, fd, ds, F, m, b, vd, kb⟩ := D.ex
  have ok := F.ok S len (fun cdv A outer s H vs Q E hr h => hbody f cdv A outer s H vs Q E hr h)
  exact ⟨⟨f, fd, ps, ok, m, F.kp, kb⟩, ⟨f, fd, ps, ds, ok, m, F.kp, b, vd⟩⟩
theorem kbn_of {K : PySem.W.Frag} {fd : FuncData} {ps ks : List Str} {n : Nat} (h : ∀ us ws : List Value, us.length = n → ws.length = ks.length → bindArgs fd ⟨us, ks.zip ws⟩ = pure (ps.zip (us ++ ws))) : KBn K fd ps n ks (fun us ws => us ++ ws) (fun vs zs => vs ++ zs) :=
  ⟨fun s us ws _ l1 l2 => .of_eq (h us ws l1 l2), fun r1 r2 => r1.append r2⟩
section
variable {X : Cx} {k n : Nat} {x : Str} {sp : Sp} {e : Expr} {es : List Expr} {kws : List Keyword} {ks : List Str} {t tk : TA} {p pos : Pos} {dv : List V}
theorem pe_clD (c : ClD X.prog X.w X.K X.mg X.base k x dv sp) (hr : Room k X.A) (hg : Gl X x) (ha : PA X (e :: es) t)
    (hdb : (x == ("__debug__" : Str)) = false := by decide) (he : starEach (e :: es) X.env = (false, eval e X.env) :: starEach es X.env := by rfl) (hpl : (backTo pos (starEach es X.env)).any (·.1) = false := by rfl) :
    PE X (.Call (.Name x p) (e :: es) [] pos) (tCall sp dv E0 t) := by
  obtain ⟨f, fd, ps, ds, F, hm, kp, b, vd⟩ := c.ex
  exact pe_call F hr hg hm kp b vd pass0 ha hdb he hpl
theorem pe_clK (c : ClK X.prog X.w X.K X.mg X.base k x n ks sp) (hr : Room k X.A) (hg : Gl X x) (ha : PA X (e :: es) t) (hkw : PK X kws tk)
    (hall : (backToKw pos (keywordEach kws X.env)).all (·.1.isSome) = true := by rfl) (hks : (backToKw pos (keywordEach kws X.env)).filterMap (·.1) = ks := by rfl)
    (hdb : (x == ("__debug__" : Str)) = false := by decide) (he : starEach (e :: es) X.env = (false, eval e X.env) :: starEach es X.env := by rfl)
    (hpl : ((backTo pos (starEach (e :: es) X.env)).any (·.1) || (backToKw pos (keywordEach kws X.env)).any (·.1.isNone)) = false := by rfl) :
    PE X (.Call (.Name x p) (e :: es) kws pos) (tCallN n ks.length sp (fun vs zs => vs ++ zs) E0 t tk) := by
  obtain ⟨f, fd, ps, F, hm, kp, b⟩ := c.ex
  exact pe_callN F hr hg hm kp b pass0 ha hkw hall hks hdb he hpl
end
/-- a target of four names -/
theorem pg_four {X : Cx} {K : PySem.W.Frag} {i j l m k : Nat} {x y z u : Str} {p1 p2 p3 p4 pos : Pos} (hK : X.K = K) (hc : X.calm = true) (hN : X.N.Nodup) (hi : X.N[i]? = some x) (hj : X.N[j]? = some y) (hl : X.N[l]? = some z) (hm : X.N[m]? = some u)
    (hx : Loc X.env.scope x) (hy : Loc X.env.scope y) (hz : Loc X.env.scope z) (hu : Loc X.env.scope u)
    (fx : X.fn x = true ∨ X.env.scope.names.lookup x = some .local := by first | exact .inl rfl | exact .inr rfl) (fy : X.fn y = true ∨ X.env.scope.names.lookup y = some .local := by first | exact .inl rfl | exact .inr rfl)
    (fz : X.fn z = true ∨ X.env.scope.names.lookup z = some .local := by first | exact .inl rfl | exact .inr rfl) (fu : X.fn u = true ∨ X.env.scope.names.lookup u = some .local := by first | exact .inl rfl | exact .inr rfl) :
    PG X (.Tuple [.Name x p1, .Name y p2, .Name z p3, .Name u p4] k pos) (gTup K 4 (gCons (gName i) (gCons (gName j) (gCons (gName l) (gCons (gName m) gNil))))) := by
  subst hK
  exact pg_tup hc (pgs_cons (pg_name hN hi hx fx) (pgs_cons (pg_name hN hj hy fy) (pgs_cons (pg_name hN hl hz fz) (pgs_cons (pg_name hN hm hu fu) pgs_nil))))
section
variable {X : Cx}
theorem fin_bl' {pins : List (Addr × Obj)} {σ : L2.St} {H : Hp} {s : Shared} {Q : VK} {b : Bool} (I : L2.Inv X pins σ H s) (q : Q (.bl b) H) : EP X pins σ Q (.bool b) s := ⟨.bl b, H, I, rfl, q⟩
theorem hits_dp {A : Around} {s : Shared} {H : Hp} {pins : List (Addr × Obj)} {σ : L2.St} (I : L2.Inv X pins σ H s) (hu : A.units + 64 < cLine) {kvs : List (Key × V)} {vb : List (Key × Value)} (rb : KV kvs vb) {ks : List (Key × V)} {va : List (Key × Value)} (ra : KV ks va) :
    (∀ p ∈ ks, ∃ y d, valV kvs p.1 = some y ∧ Dp X.K H p.2 d ∧ Dp X.K H y d ∧ PyData.plain d = true ∧ PyData.depth d ≤ 64) → PySem.W.KeqHits A s vb va true := by
  unfold KV at ra
  induction ra with
  | nil => intro _; exact .nil
  | @cons p q ps qs h t ih =>
    intro hp
    obtain ⟨h1, h2⟩ := h
    obtain ⟨y, d, e, dp, dy, pl, dep⟩ := hp p List.mem_cons_self
    have rr : RelO (some y) (valueAt vb p.1) := by rw [← e]; exact rb.val p.1
    obtain ⟨y', hy, ry⟩ := rr.some_of
    obtain ⟨k, v⟩ := q
    have h1' : p.1 = k := h1
    rw [h1'] at hy
    obtain ⟨as, r1⟩ := Dp.reads I d _ _ dp h2
    obtain ⟨bs, r2⟩ := Dp.reads I d _ _ dy ry
    have eq := SeqAt.eqAt_plain d d A s v y' as bs r1 r2 pl pl (by omega)
    rw [SeqAt.eqv_refl_plain _ pl] at eq
    show PySem.W.KeqHits A s vb ((k, v) :: qs) (true && true)
    exact .hit hy eq (ih fun p' hm => hp p' (List.mem_cons_of_mem _ hm))
/-- != of dicts that are alike, their values data -/
def rNeDP (K : PySem.W.Frag) : R2 := fun x y H Q => ∃ a b ks ls, x = .ref a ∧ y = .ref b ∧ H a = some (.dK ks) ∧ H b = some (.dK ls) ∧ ks.length = ls.length ∧
  (∀ p ∈ ks, ∃ y d, valV ls p.1 = some y ∧ Dp K H p.2 d ∧ Dp K H y d ∧ PyData.plain d = true ∧ PyData.depth d ≤ 64) ∧ Q (.bl false) H
theorem op_neDP (hu : X.A.units + 70 < cLine) : OpR X (compareOp .NotEq) (rNeDP X.K) := by
  intro pins s σ H x y v u Q I rx ry h
  obtain ⟨a, b, ks, ls, rfl, rfl, ea, eb, hlen, hp, q⟩ := h
  obtain rfl : v = Value.ref a := rx
  obtain rfl : u = Value.ref b := ry
  obtain ⟨_, ya, va, ra, da⟩ := (show ObjOk X.prog X.w H s.heap a (.dK ks) from I.hok a _ ea)
  obtain ⟨_, yb, vb, rb, db⟩ := (show ObjOk X.prog X.w H s.heap b (.dK ls) from I.hok b _ eb)
  have hl : va.length = vb.length := by rw [← ra.length, ← rb.length]; exact hlen
  refine PySem.W.keq_ne (knd := mixKind X.prog X.w) (r := true) ya yb da db (by omega) (fun _ => hits_dp I (by first | (show X.A.units + 64 < cLine; omega) | (show X.A.units + 1 + 64 < cLine; omega)) rb ra hp) ?_
  have e : (!(va.length == vb.length && true)) = false := by simp [hl]
  rw [e]
  exact fin_bl' I q
/-- d.update(e) -/
def rUpd : V → List V → Hp → VK → Prop := fun x xs H Q => ∃ (a b : Addr) (ks ls : List (Key × V)), x = .ref a ∧ xs = [.ref b] ∧ a ≠ b ∧ H a = some (.dK ks) ∧ H b = some (.dK ls) ∧ ks.length + ls.length ≤ sizeLine ∧ Q .non (upd H a (.dK (mergeK ks ls)))
theorem mt_upd : MtR X "dict.update" rUpd := by
  intro pins s σ H x xs v us Q I rx rxs h
  obtain ⟨a, b, ks, ls, rfl, rfl, ne, ea, eb, z, q⟩ := h
  obtain rfl : v = Value.ref a := rx
  obtain ⟨u, rfl, ru⟩ := vals1 rxs
  obtain rfl : u = Value.ref b := ru
  obtain ⟨z1, ya, va, ra, da⟩ := (show ObjOk X.prog X.w H s.heap a (.dK ks) from I.hok a _ ea)
  obtain ⟨z2, yb, vb, rb, db⟩ := (show ObjOk X.prog X.w H s.heap b (.dK ls) from I.hok b _ eb)
  refine call_meetsIn PySem.F.slot_dict_update da.typeIs PySem.F.entry_dict_update (PySem.F.args_dict_update_2 _ _) (meets_dict_update (mixKind X.prog X.w) a b ne yb) ⟨va, vb, da, db, by rw [← ra.length, ← rb.length]; exact z, fun h' da' db' hs => ?_⟩
  have he : ∃ q, h'.get? a = some q := let ⟨q, _, _, hq, _⟩ := da'; ⟨q, hq⟩
  have hl : (mergeK ks ls).length ≤ sizeLine := Nat.le_trans (length_mergeK ls ks) z
  exact ⟨.non, upd H a (.dK (mergeK ks ls)), d_write I (by rw [ea]; exact True.intro) hs he (dk_new hl ya (KV.merge rb ra) da'), rfl, q⟩
end
end SG
/-! methods by their contracts -/
namespace SG
open PySem PySem.Spec PyProof.Rows L2
/-- a method as the top has left it -/
structure Dm (K : PySem.W.Frag) (mg : Str → Option Value) (C : Addr) (m qual : Str) (st : Stmt) (ps : List Str) : Prop where
  ex : ∃ (f : Addr) (fd : FuncData), Cls K C ∧ Meth K C m f ∧ Fun K m qual st f fd ∧ Binds K fd ps []
/-- a class as the top has left it, by its __init__ -/
structure Di (K : PySem.W.Frag) (mg : Str → Option Value) (x : Str) (C : Addr) (qual : Str) (st : Stmt) (ps : List Str) : Prop where
  ex : ∃ (f : Addr) (fd : FuncData), Mk K C f ∧ mg x = some (.ref C) ∧ Fun K "__init__" qual st f fd ∧ Binds K fd ps []
section
variable {P : Program} {w : World} {K : PySem.W.Frag} {mg : Str → Option Value} {base : Heap}
theorem Dm.ok {C : Addr} {m qual : Str} {st : Stmt} {N ps : List Str} {k : Nat} {sp : Sp} (D : Dm K mg C m qual st ps) (S : FnScope N ps (defScope st)) (len : ∀ vs H Q E, sp vs H Q E → vs.length = ps.length)
    (hbody : ∀ (f : Addr) (cdv : Value) (A : Around) (outer : List Env) (s : Shared) (H : Hp) (vs : List V) (Q : VK) (E : XK), Room k (A.deeper (envOfC qual (defScope st) s.heap.objs.size f cdv)) → sp vs H Q E →
      ∃ t, PSs (cxOf CX0 P w K mg base N qual (defScope st) f cdv A outer s H E).nox (defBody st) t ∧ t { nx := fun _ H' => Q .non H', rt := Q } (start N vs) H) : C8.Met P w K mg base (k + 1) C m sp [] := by
  obtain ⟨f, fd, c, me, F, b⟩ := D.ex
  exact ⟨f, fd, ps, [], c, me, F.ok S len (fun cdv A outer s H vs Q E hr h => hbody f cdv A outer s H vs Q E hr h), b, .nil⟩
theorem Dm.none {C : Addr} {m qual : Str} {st : Stmt} {ps : List Str} {sp : Sp} (D : Dm K mg C m qual st ps) (no : ∀ vs H Q E, ¬ sp vs H Q E) : C8.Met P w K mg base 0 C m sp [] := by
  obtain ⟨f, fd, c, me, F, b⟩ := D.ex
  exact ⟨f, fd, ps, [], c, me, ⟨fun vs H Q E h => absurd h (no vs H Q E), fun A outer s H args us vs Q E _ _ _ _ h => absurd h (no vs H Q E)⟩, b, .nil⟩
theorem Di.ok {C : Addr} {x qual : Str} {st : Stmt} {N ps : List Str} {k : Nat} {sp : Sp} (D : Di K mg x C qual st ps) (S : FnScope N ps (defScope st)) (len : ∀ vs H Q E, sp vs H Q E → vs.length = ps.length)
    (hbody : ∀ (f : Addr) (cdv : Value) (A : Around) (outer : List Env) (s : Shared) (H : Hp) (vs : List V) (Q : VK) (E : XK), Room k (A.deeper (envOfC qual (defScope st) s.heap.objs.size f cdv)) → sp vs H Q E →
      ∃ t, PSs (cxOf CX0 P w K mg base N qual (defScope st) f cdv A outer s H E).nox (defBody st) t ∧ t { nx := fun _ H' => Q .non H', rt := Q } (start N vs) H) : C8.Mak P w K mg base (k + 1) x C sp [] := by
  obtain ⟨f, fd, me, m, F, b⟩ := D.ex
  exact ⟨f, fd, ps, [], me, F.ok S len (fun cdv A outer s H vs Q E hr h => hbody f cdv A outer s H vs Q E hr h), m, b, .nil⟩
theorem met_imp {C : Addr} {m : Str} {k : Nat} {sp sp' : Sp} (c : C8.Met P w K mg base k C m sp []) (h : ∀ vs H Q E, sp' vs H Q E → sp vs H Q E) : C8.Met P w K mg base k C m sp' [] := by
  obtain ⟨f, fd, ps, ds, hc, hm, F, b, d⟩ := c.ex
  exact ⟨f, fd, ps, ds, hc, hm, F.imp h, b, d⟩
theorem met_mono {C : Addr} {m : Str} {j k : Nat} {sp : Sp} (c : C8.Met P w K mg base j C m sp []) (h : j ≤ k) : C8.Met P w K mg base k C m sp [] := by
  obtain ⟨f, fd, ps, ds, hc, hm, F, b, d⟩ := c.ex
  exact ⟨f, fd, ps, ds, hc, hm, F.mono h, b, d⟩
end
end SG
/-! slices by a step, texts some times -/
namespace SG
open PySem PySem.Spec PyProof.Rows L2
section
variable {X : Cx}
/-- a text some times -/
def timesS (a : Str) (n : Nat) : Str := ⟨(List.replicate n a.cps).foldl (· ++ ·) #[]⟩
theorem timesS_one (a : Str) : timesS a 1 = a := by
  unfold timesS
  show (⟨#[] ++ a.cps⟩ : Str) = a
  rw [Array.empty_append]
theorem fold_nil {α : Type} {z : Array α} (h : z = #[]) : ∀ (n : Nat), (List.replicate n z).foldl (· ++ ·) #[] = #[]
  | 0 => rfl
  | n + 1 => by
    subst h
    rw [List.replicate_succ, List.foldl_cons]
    show List.foldl _ (#[] ++ #[]) _ = _
    rw [Array.empty_append]
    exact fold_nil rfl n
theorem fold_size {α : Type} (z : Array α) : ∀ (n : Nat) (b : Array α), ((List.replicate n z).foldl (· ++ ·) b).size = b.size + n * z.size
  | 0, b => by simp
  | n + 1, b => by
    rw [List.replicate_succ, List.foldl_cons, fold_size z n, Array.size_append, Nat.succ_mul]
    omega
theorem timesS_nil {a : Str} (z : a.cps.size = 0) (n : Nat) : timesS a n = a := by
  have e : a.cps = #[] := Array.eq_empty_of_size_eq_zero z
  unfold timesS
  rw [fold_nil e n]
  cases a
  simp at e
  rw [e]
theorem timesS_len (a : Str) (n : Nat) : (timesS a n).length = n * a.length := by
  show ((List.replicate n a.cps).foldl (· ++ ·) #[]).size = _
  rw [fold_size]
  simp
  rfl
theorem timesS_size (a : Str) (n : Nat) (h3 : a.length ≤ 1000) (h2 : n ≤ 1000) : (timesS a n).length ≤ sizeLine := by
  rw [timesS_len]
  exact Nat.le_trans (Nat.mul_le_mul h2 h3) (by decide)
def rMulS : R2 := fun x y H Q => ∃ (a : Str) (n : Nat), x = .str a ∧ y = .int (n : Int) ∧ 1 ≤ n ∧ n ≤ 1000 ∧ a.length ≤ 1000 ∧ Q (.str (timesS a n)) H
theorem op_mulS : OpR X (binaryOp .Mult) rMulS := by
  intro pins s σ H x y v u Q I rx ry h
  obtain ⟨a, n, rfl, rfl, h1, h2, h3, q⟩ := h
  obtain ⟨t, rfl⟩ := rx
  obtain ⟨t', rfl⟩ := ry
  have n0 : ¬ (n : Int) < 1 := by omega
  have hs : a.length * n ≤ 1000000 := Nat.mul_le_mul h3 h2
  refine PySem.P.mul_str ?_ (fun _ _ => ?_) (fun _ _ => ?_) ?_
  · have a1 : ¬ (n : Int) < -(2 ^ 63 : Int) := by omega
    have a2 : ¬ (n : Int) ≥ 2 ^ 63 := by omega
    rw [decide_eq_false a1, decide_eq_false a2]
    rfl
  · have : (1000 : Int) ≤ (2 ^ 63 - 1) / (n : Int) := by
      rw [Int.le_ediv_iff_mul_le (by omega)]
      omega
    omega
  · rw [Int.toNat_natCast]
    exact decide_eq_false (by show ¬ _ > _; intro z; have := Nat.lt_of_lt_of_le z hs; revert this; decide)
  · rw [if_neg n0]
    by_cases e : ((n : Int) == 1 || a.length == 0) = true
    · rw [if_pos e]
      have et : timesS a n = a := by
        rcases Bool.or_eq_true _ _ |>.mp e with e | e
        · have : n = 1 := by have := eq_of_beq e; omega
          rw [this, timesS_one]
        · have z : a.cps.size = 0 := eq_of_beq e
          exact timesS_nil z n
      rw [et] at q
      exact ⟨.str a, H, I, ⟨t, rfl⟩, q⟩
    · rw [if_neg e, Int.toNat_natCast]
      exact ⟨timesS_size a n h3 h2, .str _, H, I.tok _, ⟨_, rfl⟩, q⟩
theorem _root_.L2.Vals.places {xs : List V} {us : List Value} (r : Vals xs us) : ∀ is : List Nat, ∃ ys : List V, Vals ys (is.filterMap (us[·]?)) ∧ ∀ y ∈ ys, y ∈ xs
  | [] => ⟨[], .nil, fun y h => nomatch h⟩
  | i :: is => by
    obtain ⟨ys, h1, h2⟩ := L2.Vals.places r is
    rw [List.filterMap_cons]
    cases e : xs[i]? with
    | none =>
      have e2 := r.none_of e
      rw [e2]
      exact ⟨ys, h1, h2⟩
    | some x =>
      obtain ⟨u, e2, rx⟩ := r.get e
      rw [e2]
      refine ⟨x :: ys, .cons rx h1, fun y hy => ?_⟩
      rcases List.mem_cons.mp hy with rfl | hy
      · exact List.mem_of_getElem? e
      · exact h2 y hy
def tStepL (K : PySem.W.Frag) (te : TE) (tl : TO) : TE := fun σ H Q => te σ H fun x H1 => tl σ H1 fun lo H2 => ∃ a xs, x = .ref a ∧ SqL K H2 a xs ∧ ∀ p ys, H2 p = none → (∀ y ∈ ys, y ∈ xs) → ys.length ≤ xs.length → Q (.ref p) (upd H2 p (.lst ys))
theorem pe_stepL {e : Expr} {te : TE} {lo : Option Expr} {tl : TO} {j : Nat} {k : Int} {p0 p2 pos : Pos} (he : PE X e te) (hl : PO X lo tl) (hk : some k ≠ some 0 := by decide) :
    PE X (.Subscript e (.Slice lo none (some (.Constant (.int k) j p0)) p2) pos) (tStepL X.K te tl) := by
  have hs : PO X (some (.Constant (.int k) j p0)) _ := po_some pe_int
  constructor
  intro pins s σ H Q I h
  refine Subscript_ (thn (he.run pins s σ H _ I h) ?_)
  rintro v s1 ⟨x, H1, I1, r1, q1⟩
  refine wpAny_Slice (thn (hl.run pins s1 σ H1 _ I1 q1) ?_)
  rintro vl s2 ⟨l, H2, I2, pl, a, xs, rfl, sq, q⟩
  obtain rfl : v = .ref a := r1
  rw [evalPart_none]
  refine wpAny_pure ?_
  refine thn (hs.run pins s2 σ H2 (fun o H3 => o = some k ∧ H3 = H2) I2 ?_) ?_
  · exact ⟨_, rfl, rfl, rfl⟩
  rintro vk s3 ⟨u, H3, I3, pu, rfl, rfl⟩
  have I4 : L2.Inv X pins σ H3 { s3 with heap := s3.heap.push { cls := .type "slice", data := .fields #[vl, .none, vk] } } := I3.kept (t' := s3.toks) fun b ob q => Heap.get?_push_of_some _ q
  obtain ⟨its, r, ht, hz⟩ := I4.list sq
  have many : its.toArray.size = xs.length := by rw [List.size_toArray]; exact r.length.symm
  refine tail_any (ops := [.ref a, .ref s3.heap.objs.size]) ht.isList.typeIs slot_list_getitem.lookup (wpAny_getItem_list_slice ht.isList (Heap.IsSliceOf.new ..) pl .none pu hk ?_ (by rw [many]; exact hz)) (by with_unfolding_all rfl)
  have small := slicePick_size_le its.toArray l none (some k)
  obtain ⟨ys, ry, hy⟩ := r.places (sliceRange (sliceBounds l none (some k) its.toArray.size).1 (sliceBounds l none (some k) its.toArray.size).2.1 (sliceBounds l none (some k) its.toArray.size).2.2)
  have e : slicePick its.toArray l none (some k) = ((sliceRange (sliceBounds l none (some k) its.toArray.size).1 (sliceBounds l none (some k) its.toArray.size).2.1 (sliceBounds l none (some k) its.toArray.size).2.2).filterMap (its[·]?)).toArray := by
    simp [slicePick]
  rw [e] at small ⊢
  have ly : ys.length ≤ xs.length := by
    rw [ry.length, ← many]
    simpa using small
  refine ⟨.ref _, _, I4.laid (t' := s3.toks) (o := .lst ys) (fun b ob q => Heap.get?_push_of_some _ q) (Nat.le_refl _) ?_, rfl, q _ ys (I4.hok.fresh (Nat.le_refl _)) hy ly⟩
  exact ⟨Nat.le_trans ly hz, _, 0, ry, Heap.get?_push_size _ rfl⟩
theorem pe_revFK {K : PySem.W.Frag} {e : Expr} {te : TE} {j : Nat} {p0 p1 p2 pos : Pos} (he : PE X e te) (hK : X.K = K := by rfl) : PE X (.Subscript e (.Slice none none (some (.UnaryOp .USub (.Constant (.int 1) j p0) p1)) p2) pos) (tRevF K te) := by
  subst hK
  exact pe_revF he
theorem pe_bm0K {K : PySem.W.Frag} {T name id : String} {r : V → List V → Hp → VK → Prop} {o : Expr} {to : TE} {apos cpos : Pos} (pa : PlainAttrs T) (slot : Slot T name id) (hty : typeOf (.builtin id) = pure (.type "method_descriptor")) (hm : MtR X id r) (ho : PE X o to) (hK : X.K = K := by rfl)
    (hbase : attributeBase o name X.env (eval o X.env) = eval o X.env := by rfl) (hline : (apos.endLine == cpos.line) = true := by rfl) : PE X (.Call (.Attribute o name apos) [] [] cpos) (tBM0 K T r to) := by
  subst hK
  exact pe_bm0 pa slot hty hm ho hbase hline
/-- a walk over a dict that is new: locked from there on -/
def iKeysZ (td : TE) : TI := fun σ H R => td σ H fun x H1 => ∃ d kvs, x = .ref d ∧ H1 d = some (.dK kvs) ∧ ∀ od, R (Itk d od kvs) (upd H1 d (.frz od (.dK kvs)))
theorem pi_keysZ {tg e : Expr} {td : TE} (he : PE X e td) : PI X tg e (iKeysZ td) := by
  refine ⟨fun pins s σ H R I h => ?_⟩
  refine thn (he.run pins s σ H _ I h) fun u s1 ⟨x, H1, I1, rx, d, kvs, ex, hd, q⟩ => ?_
  subst ex
  obtain rfl : u = Value.ref d := rx
  obtain ⟨od, I2⟩ := I1.lock hd trivial
  obtain ⟨hs, hgd, hx, es, ep, vs, hdt, hsz, kv, hm⟩ := I2.frzK upd_same
  refine iter_keys hs hgd hx hdt (pi_one (tk := s1.toks) I2 _ (turn_keys _ hdt) ⟨_, Heap.get?_push_size _ rfl, rfl, ?_⟩ (q od))
  rw [hsz] <;> rfl
end
end SG
namespace SG
open PySem PySem.Spec PyProof.Rows L2
def top (i : Nat) : Stmt := PySem.Challenge.pw_strokeguess_k42_steps_kept_whole.main.body.getD i (.Pass ⟨0, 0, 0, 0⟩)

structure Txt (K : PySem.W.Frag) (mg : Str → Option Value) : Prop where
  m_dict : mg "dict" = none
  m_int : mg "int" = none
  m_len : mg "len" = none
  m_list : mg "list" = none
  m_max : mg "max" = none
  m_min : mg "min" = none
  m_range : mg "range" = none
  m_sorted : mg "sorted" = none
  m_tuple : mg "tuple" = none
  mNAMEx : ∃ t, mg "NAME" = some (.int 0 t)
  mSHELFx : ∃ t, mg "SHELF" = some (.int 3 t)
  mPARTSx : ∃ t, mg "PARTS" = some (.int 5 t)
structure TxShelves (K : PySem.W.Frag) (mg : Str → Option Value) (C : Addr) : Prop where
  cl : Cls K C
  mgC : mg "Shelves" = some (.ref C)
  n_outward : NoAttr K C "_outward"
  n_places : NoAttr K C "_places"
  n_scene : NoAttr K C "_scene"
  n_shelves : NoAttr K C "_shelves"
abbrev s__init__ : Stmt := inClass (top 5) 0
abbrev N__init__ : List Str := ["self", "scene"]
theorem sc__init__ : FnScope N__init__ ["self", "scene"] (defScope s__init__) := ⟨rfl, rfl, rfl, by decide +kernel, rfl, by decide +kernel, by decide +kernel⟩

abbrev sstep : Stmt := inClass (top 5) 1
abbrev Nstep : List Str := ["self", "name", "dx", "dy", "taken", "over_dx", "over_dy"]
theorem scstep : FnScope Nstep ["self", "name", "dx", "dy"] (defScope sstep) := ⟨rfl, rfl, rfl, by decide +kernel, rfl, by decide +kernel, by decide +kernel⟩

abbrev splaces : Stmt := inClass (top 5) 2
abbrev Nplaces : List Str := ["self"]
theorem scplaces : FnScope Nplaces ["self"] (defScope splaces) := ⟨rfl, rfl, rfl, by decide +kernel, rfl, by decide +kernel, by decide +kernel⟩

abbrev s_put_in : Stmt := inClass (top 5) 5
abbrev N_put_in : List Str := ["self", "part", "outer", "name", "outward", "inner"]
theorem sc_put_in : FnScope N_put_in ["self", "part", "outer"] (defScope s_put_in) := ⟨rfl, rfl, rfl, by decide +kernel, rfl, by decide +kernel, by decide +kernel⟩

abbrev s_take : Stmt := inClass (top 5) 6
abbrev N_take : List Str := ["self", "taken", "name", "way", "left", "part", "shelf_way", "least", "most", "place", "goal"]
theorem sc_take : FnScope N_take ["self", "taken", "name", "way", "left"] (defScope s_take) := ⟨rfl, rfl, rfl, by decide +kernel, rfl, by decide +kernel, by decide +kernel⟩

abbrev s_law_begun : Stmt := top 7
abbrev N_law_begun : List Str := ["_law_script"]
theorem sc_law_begun : FnScope N_law_begun ["_law_script"] (defScope s_law_begun) := ⟨rfl, rfl, rfl, by decide +kernel, rfl, by decide +kernel, by decide +kernel⟩

abbrev s_law_draw : Stmt := top 8
abbrev N_law_draw : List Str := ["_law_tape", "_law_many", "_law_spot", "_law_most", "_law_cell", "_law_found"]
theorem sc_law_draw : FnScope N_law_draw ["_law_tape", "_law_many"] (defScope s_law_draw) := ⟨rfl, rfl, rfl, by decide +kernel, rfl, by decide +kernel, by decide +kernel⟩

abbrev s_law_pick : Stmt := top 9
abbrev N_law_pick : List Str := ["_law_tape", "_law_some"]
theorem sc_law_pick : FnScope N_law_pick ["_law_tape", "_law_some"] (defScope s_law_pick) := ⟨rfl, rfl, rfl, by decide +kernel, rfl, by decide +kernel, by decide +kernel⟩

abbrev s_law_shelved : Stmt := top 10
abbrev N_law_shelved : List Str := ["_law_tape", "_law_part", "_law_inner", "_law_way", "_law_most", "_law_one"]
theorem sc_law_shelved : FnScope N_law_shelved ["_law_tape", "_law_part"] (defScope s_law_shelved) := ⟨rfl, rfl, rfl, by decide +kernel, rfl, by decide +kernel, by decide +kernel⟩

abbrev s_law_spelled : Stmt := top 11
abbrev N_law_spelled : List Str := ["_law_tape", "_law_letters", "_law_first", "_law_by", "_law_tail", "_law_k"]
theorem sc_law_spelled : FnScope N_law_spelled ["_law_tape"] (defScope s_law_spelled) := ⟨rfl, rfl, rfl, by decide +kernel, rfl, by decide +kernel, by decide +kernel⟩

abbrev s_law_wished : Stmt := top 12
abbrev N_law_wished : List Str := ["_law_tape", "_law_word", "_law_pulls", "_law_some", "_law_times"]
theorem sc_law_wished : FnScope N_law_wished ["_law_tape", "_law_word", "_law_pulls"] (defScope s_law_wished) := ⟨rfl, rfl, rfl, by decide +kernel, rfl, by decide +kernel, by decide +kernel⟩

abbrev s_law_drawn : Stmt := top 13
abbrev N_law_drawn : List Str := ["_law_tape", "_law_pulls", "_law_words", "_law_some", "_law_inner", "_law_deep", "_law_labels", "_law_k", "_law_many", "_law_wishes", "_law_most", "_law_is_about", "_law_ledge", "_law_box", "_law_part", "_law_pairs", "_law_share", "_law_beside", "_law_heeds", "_law_n", "_law_side", "_law_pair", "_law_wish"]
theorem sc_law_drawn : FnScope N_law_drawn ["_law_tape", "_law_pulls"] (defScope s_law_drawn) := ⟨rfl, rfl, rfl, by decide +kernel, rfl, by decide +kernel, by decide +kernel⟩

abbrev s_law_parts : Stmt := top 14
abbrev N_law_parts : List Str := ["_law_part", "_law_outer", "_law_found", "_law_name", "_law_box", "_law_ear", "_law_ledge", "_law_wishes", "_law_inner", "_law_one"]
theorem sc_law_parts : FnScope N_law_parts ["_law_part", "_law_outer", "_law_found"] (defScope s_law_parts) := ⟨rfl, rfl, rfl, by decide +kernel, rfl, by decide +kernel, by decide +kernel⟩

abbrev s_law_own : Stmt := top 15
abbrev N_law_own : List Str := ["_law_scene", "_law_far", "_law_pause", "_law_is_guessing", "_law_found", "_law_word", "_law_name"]
theorem sc_law_own : FnScope N_law_own ["_law_scene", "_law_far", "_law_pause", "_law_is_guessing"] (defScope s_law_own) := ⟨rfl, rfl, rfl, by decide +kernel, rfl, by decide +kernel, by decide +kernel⟩

abbrev s_law_is_whole : Stmt := top 16
abbrev N_law_is_whole : List Str := ["_law_parts_here", "_law_name", "_law_way", "_law_step", "_law_was", "_law_now", "_law_left", "_law_took", "_law_is_open", "_law_own_here", "_law_least", "_law_most", "_law_more"]
theorem sc_law_is_whole : FnScope N_law_is_whole ["_law_parts_here", "_law_name", "_law_way", "_law_step", "_law_was", "_law_now", "_law_left"] (defScope s_law_is_whole) := ⟨rfl, rfl, rfl, by decide +kernel, rfl, by decide +kernel, by decide +kernel⟩

abbrev s_law_about : Stmt := top 17
abbrev N_law_about : List Str := ["_law_held", "_law_name", "_law_found"]
theorem sc_law_about : FnScope N_law_about ["_law_held", "_law_name"] (defScope s_law_about) := ⟨rfl, rfl, rfl, by decide +kernel, rfl, by decide +kernel, by decide +kernel⟩

abbrev slaw : Stmt := top 18
abbrev Nlaw : List Str := ["_law_script", "_law_tape", "_law_turn", "_law_scene", "_law_mill", "_law_held", "_law_again", "_law_name", "_law_was", "_law_step", "_law_found", "_law_rest", "_law_now", "_law_others", "_law_k", "_law_one"]
theorem sclaw : FnScope Nlaw ["_law_script"] (defScope slaw) := ⟨rfl, rfl, rfl, by decide +kernel, rfl, by decide +kernel, by decide +kernel⟩

end SG
namespace SG
open PySem PySem.Spec PyProof.Rows L2
/-! ### parts as trees, the chain of a part outward -/
abbrev Sh := Option (Bool × Int × Int)
abbrev Ch := List (Str × Sh)
inductive Tr where
  | mk (a : Addr) (nm : Str) (sh : Sh) (ks : List Tr)
def Tr.a : Tr → Addr | .mk a _ _ _ => a
def Tr.nm : Tr → Str | .mk _ nm _ _ => nm
def Tr.sh : Tr → Sh | .mk _ _ sh _ => sh
def Tr.ks : Tr → List Tr | .mk _ _ _ ks => ks
mutual
/-- the chains of a part and of all in it, c the chain of its parent -/
def Tr.chs (c : Ch) : Tr → List Ch
  | .mk _ nm sh ks => ((nm, sh) :: c) :: chsL ((nm, sh) :: c) ks
def chsL (c : Ch) : List Tr → List Ch
  | [] => []
  | p :: r => p.chs c ++ chsL c r
end
theorem chs_eq (c : Ch) (p : Tr) : p.chs c = ((p.nm, p.sh) :: c) :: chsL ((p.nm, p.sh) :: c) p.ks := by
  cases p
  rfl
theorem chsL_app (c : Ch) : ∀ a b : List Tr, chsL c (a ++ b) = chsL c a ++ chsL c b
  | [], _ => rfl
  | p :: r, b => by
    show p.chs c ++ chsL c (r ++ b) = (p.chs c ++ chsL c r) ++ chsL c b
    rw [chsL_app c r b, List.append_assoc]
def hn : Ch → Str
  | [] => Str.empty
  | (n, _) :: _ => n
def hs : Ch → Sh
  | [] => none
  | (_, s) :: _ => s
mutual
def Tr.nms : Tr → List Str
  | .mk _ nm _ ks => nm :: nmsT ks
def nmsT : List Tr → List Str
  | [] => []
  | p :: r => p.nms ++ nmsT r
end
theorem nms_eq (p : Tr) : p.nms = p.nm :: nmsT p.ks := by
  cases p
  rfl
theorem nmsT_app : ∀ a b : List Tr, nmsT (a ++ b) = nmsT a ++ nmsT b
  | [], _ => rfl
  | p :: r, b => by
    show p.nms ++ nmsT (r ++ b) = (p.nms ++ nmsT r) ++ nmsT b
    rw [nmsT_app r b, List.append_assoc]
mutual
theorem hn_chs : ∀ (p : Tr) (c : Ch), (p.chs c).map hn = p.nms
  | .mk a nm sh ks, c => by
    show hn ((nm, sh) :: c) :: (chsL ((nm, sh) :: c) ks).map hn = nm :: nmsT ks
    rw [hn_chsL ks]
    rfl
theorem hn_chsL : ∀ (ks : List Tr) (c : Ch), (chsL c ks).map hn = nmsT ks
  | [], _ => rfl
  | p :: r, c => by
    show (p.chs c ++ chsL c r).map hn = p.nms ++ nmsT r
    rw [List.map_append, hn_chs p, hn_chsL r]
end
/-- of each chain all that is outward of it is there, too -/
def Closed (es : List Ch) : Prop := ∀ ch ∈ es, ch ≠ [] ∧ ∀ x c, ch = x :: c → c ≠ [] → c ∈ es
mutual
theorem chs_tail : ∀ (p : Tr) (c : Ch), ∀ ch ∈ p.chs c, ∃ x r, ch = x :: r ∧ (r = c ∨ r ∈ p.chs c)
  | .mk a nm sh ks, c, ch, h => by
    have h' : ch ∈ ((nm, sh) :: c) :: chsL ((nm, sh) :: c) ks := h
    rcases List.mem_cons.mp h' with rfl | h'
    · exact ⟨_, _, rfl, .inl rfl⟩
    · obtain ⟨x, r, e, q⟩ := chsL_tail ks _ ch h'
      refine ⟨x, r, e, .inr ?_⟩
      show r ∈ ((nm, sh) :: c) :: chsL ((nm, sh) :: c) ks
      rcases q with rfl | q
      · exact List.mem_cons_self
      · exact List.mem_cons_of_mem _ q
theorem chsL_tail : ∀ (ks : List Tr) (c : Ch), ∀ ch ∈ chsL c ks, ∃ x r, ch = x :: r ∧ (r = c ∨ r ∈ chsL c ks)
  | [], _, _, h => nomatch h
  | p :: ks, c, ch, h => by
    have h' : ch ∈ p.chs c ++ chsL c ks := h
    rcases List.mem_append.mp h' with h' | h'
    · obtain ⟨x, r, e, q⟩ := chs_tail p c ch h'
      exact ⟨x, r, e, q.imp id fun m => List.mem_append_left _ m⟩
    · obtain ⟨x, r, e, q⟩ := chsL_tail ks c ch h'
      exact ⟨x, r, e, q.imp id fun m => List.mem_append_right _ m⟩
end
theorem closed_tree (p : Tr) : Closed (p.chs []) := fun ch h => by
  obtain ⟨x, r, rfl, q⟩ := chs_tail p [] ch h
  refine ⟨by simp, fun y c e n => ?_⟩
  obtain ⟨rfl, rfl⟩ := List.cons.inj e
  rcases q with q | q
  · exact absurd q n
  · exact q
theorem Closed.suf {es : List Ch} (h : Closed es) : ∀ {a c : Ch}, a ++ c ∈ es → c ≠ [] → c ∈ es
  | [], _, m, _ => m
  | x :: a, c, m, n => by
    have := (h _ m).2 x (a ++ c) rfl (by simp [n])
    exact h.suf this n
/-! ### shelves -/
abbrev wayS (b : Bool) : Str := if b = true then "across" else "along"
def ShAt (H : Hp) (v : V) : Sh → Prop
  | none => v = .non
  | some (b, i, j) => (∃ q : Addr, v = .ref q ∧ H q = some (.tup [.str (wayS b), .int i, .int j])) ∧ (-10000 ≤ i ∧ i ≤ 0) ∧ (0 ≤ j ∧ j ≤ 10000)
def PtAt (H : Hp) : Nat → Tr → Prop
  | 0, _ => False
  | d + 1, p => ∃ (ws ks : Addr) (bx ear sh : V), H p.a = some (.tup [.str p.nm, bx, ear, sh, .ref ws, .ref ks]) ∧ ShAt H sh p.sh ∧ H ks = some (.tup (p.ks.map fun k => V.ref k.a)) ∧ ∀ k ∈ p.ks, PtAt H d k
theorem ShAt.tp {H H' : Hp} {v : V} {sh : Sh} (h : ShAt H v sh) (t : Tp H H') : ShAt H' v sh := by
  match sh, h with
  | none, h => exact h
  | some (b, i, j), ⟨⟨q, h1, h2⟩, h3⟩ => exact ⟨⟨q, h1, t _ _ h2⟩, h3⟩
theorem PtAt.tp {H H' : Hp} (t : Tp H H') : ∀ {d : Nat} {p : Tr}, PtAt H d p → PtAt H' d p
  | 0, _, h => h
  | d + 1, p, h => by
    obtain ⟨ws, ks, bx, ear, sh, h1, h2, h3, h4⟩ := h
    exact ⟨ws, ks, bx, ear, sh, t _ _ h1, h2.tp t, t _ _ h3, fun k hk => (h4 k hk).tp t⟩
theorem PtAt.up {H : Hp} : ∀ {d e : Nat} {p : Tr}, PtAt H d p → d ≤ e → PtAt H e p
  | 0, _, _, h, _ => h.elim
  | d + 1, 0, _, _, q => by omega
  | d + 1, e + 1, p, h, q => by
    obtain ⟨ws, ks, bx, ear, sh, h1, h2, h3, h4⟩ := h
    exact ⟨ws, ks, bx, ear, sh, h1, h2, h3, fun k hk => (h4 k hk).up (by omega)⟩
/-- ledges are about 0 -/
def OkSh : Sh → Prop
  | none => True
  | some (_, i, j) => (-10000 ≤ i ∧ i ≤ 0) ∧ (0 ≤ j ∧ j ≤ 10000)
def OkCh (ch : Ch) : Prop := ∀ x ∈ ch, OkSh x.2
theorem ShAt.ok {H : Hp} {v : V} {sh : Sh} (h : ShAt H v sh) : OkSh sh := by
  match sh, h with
  | none, _ => trivial
  | some (b, i, j), ⟨_, h3⟩ => exact h3
/-- names are small -/
def OkN (n : Str) : Prop := n.length ≤ 40 ∧ ∀ c ∈ n.cps.toList, c < 1000
mutual
theorem ok_chs {H : Hp} : ∀ {p : Tr} {d : Nat} {c : Ch}, PtAt H d p → OkCh c → ∀ ch ∈ p.chs c, OkCh ch
  | _, 0, _, h, _, _, _ => h.elim
  | .mk a nm sh ks, d + 1, c, h, ho, ch, hc => by
    obtain ⟨ws, kk, bx, ear, sv, h1, h2, h3, h4⟩ := h
    have me : OkCh ((nm, sh) :: c) := fun x hx => by
      rcases List.mem_cons.mp hx with rfl | hx
      · exact h2.ok
      · exact ho x hx
    have hc' : ch ∈ ((nm, sh) :: c) :: chsL ((nm, sh) :: c) ks := hc
    rcases List.mem_cons.mp hc' with rfl | hc'
    · exact me
    · exact ok_chsL (ks := ks) h4 me ch hc'
theorem ok_chsL {H : Hp} : ∀ {ks : List Tr} {d : Nat} {c : Ch}, (∀ k ∈ ks, PtAt H d k) → OkCh c → ∀ ch ∈ chsL c ks, OkCh ch
  | [], _, _, _, _, _, h => nomatch h
  | p :: r, d, c, h, ho, ch, hc => by
    have hc' : ch ∈ p.chs c ++ chsL c r := hc
    rcases List.mem_append.mp hc' with hc' | hc'
    · exact ok_chs (h p List.mem_cons_self) ho ch hc'
    · exact ok_chsL (fun k hk => h k (List.mem_cons_of_mem _ hk)) ho ch hc'
end
mutual
theorem len_chs {H : Hp} : ∀ {p : Tr} {d : Nat} {c : Ch}, PtAt H d p → ∀ ch ∈ p.chs c, ch.length ≤ c.length + d
  | _, 0, _, h, _, _ => h.elim
  | .mk a nm sh ks, d + 1, c, h, ch, hc => by
    obtain ⟨ws, kk, bx, ear, sv, h1, h2, h3, h4⟩ := h
    have hc' : ch ∈ ((nm, sh) :: c) :: chsL ((nm, sh) :: c) ks := hc
    rcases List.mem_cons.mp hc' with rfl | hc'
    · rw [List.length_cons]; omega
    · have := len_chsL (ks := ks) h4 ch hc'
      rw [List.length_cons] at this
      omega
theorem len_chsL {H : Hp} : ∀ {ks : List Tr} {d : Nat} {c : Ch}, (∀ k ∈ ks, PtAt H d k) → ∀ ch ∈ chsL c ks, ch.length ≤ c.length + d
  | [], _, _, _, _, h => nomatch h
  | p :: r, d, c, h, ch, hc => by
    have hc' : ch ∈ p.chs c ++ chsL c r := hc
    rcases List.mem_append.mp hc' with hc' | hc'
    · exact len_chs (h p List.mem_cons_self) ch hc'
    · exact len_chsL (fun k hk => h k (List.mem_cons_of_mem _ hk)) ch hc'
end
/-! ### a step -/
def fset (f : Str → Int) (n : Str) (z : Int) : Str → Int := fun m => if m = n then z else f m
theorem fset_same {f : Str → Int} {n : Str} {z : Int} : fset f n z n = z := if_pos rfl
def goal (i j x : Int) : Int := min (max x i) j
def tk (b : Bool) : Ch → Int → (Str → Int) → List (Str × Int × Int) × Int × (Str → Int)
  | [], l, f => ([], l, f)
  | (_, none) :: r, l, f => tk b r l f
  | (n, some (w, i, j)) :: r, l, f =>
    if w = b ∧ goal i j (f n + l) ≠ f n then
      ((n, goal i j (f n + l) - f n, goal i j (f n + l)) :: (tk b r (l - (goal i j (f n + l) - f n)) (fset f n (goal i j (f n + l)))).1, (tk b r (l - (goal i j (f n + l) - f n)) (fset f n (goal i j (f n + l)))).2)
    else tk b r l f
/-- those with shelves -/
def chF (ch : Ch) : Ch := ch.filter (·.2.isSome)
theorem tk_chF (b : Bool) : ∀ (ch : Ch) (l : Int) (f : Str → Int), tk b (chF ch) l f = tk b ch l f
  | [], _, _ => rfl
  | (n, none) :: r, l, f => by
    show tk b (chF r) l f = tk b r l f
    exact tk_chF b r l f
  | (n, some (w, i, j)) :: r, l, f => by
    show tk b ((n, some (w, i, j)) :: chF r) l f = _
    simp only [tk, tk_chF b r]
def stp (ch : Ch) (dx dy : Int) (f : Str → Int) : List (Str × Int × Int) × (Int × Int) × (Str → Int) :=
  ((tk true ch dx f).1 ++ (tk false ch dy (tk true ch dx f).2.2).1, ((tk true ch dx f).2.1, (tk false ch dy (tk true ch dx f).2.2).2.1), (tk false ch dy (tk true ch dx f).2.2).2.2)
def rowP (x : Str × Int × Int) : PyData := .tuple [.str x.1, .int x.2.1, .int x.2.2]
/-! ### the dicts of a mill -/
def plL (es : List Ch) : List Str := (es.filter fun c => (hs c).isSome).map hn
theorem plL_app (a b : List Ch) : plL (a ++ b) = plL a ++ plL b := by
  unfold plL
  rw [List.filter_append, List.map_append]
def kvI (ns : List Str) (f : Str → Int) : List (Key × V) := ns.map fun n => ((Sum.inr n : Key), V.int (f n))
theorem kvI_val {ns : List Str} {f : Str → Int} {n : Str} (h : n ∈ ns) : valV (kvI ns f) (Sum.inr n : Key) = some (.int (f n)) := by
  induction ns with
  | nil => cases h
  | cons m r ih =>
    by_cases e : m = n
    · subst e
      exact valV_pos rfl
    · show valV (((Sum.inr m : Key), V.int (f m)) :: kvI r f) _ = _
      rw [valV_neg (fun z => e (Sum.inr.inj z))]
      exact ih ((List.mem_cons.mp h).resolve_left fun z => e z.symm)
theorem kvI_none {ns : List Str} {f : Str → Int} {n : Str} (h : n ∉ ns) : valV (kvI ns f) (Sum.inr n : Key) = none := by
  induction ns with
  | nil => rfl
  | cons m r ih =>
    show valV (((Sum.inr m : Key), V.int (f m)) :: kvI r f) _ = _
    rw [valV_neg (fun z => h (by rw [Sum.inr.inj z]; exact List.mem_cons_self))]
    exact ih fun q => h (List.mem_cons_of_mem _ q)
theorem kvI_put {ns : List Str} {f : Str → Int} {n : Str} {z : Int} (h : n ∈ ns) : putK (kvI ns f) (Sum.inr n : Key) (.int z) = kvI ns (fset f n z) := by
  unfold putK
  rw [valV_any, kvI_val h]
  show (kvI ns f).map _ = _
  unfold kvI
  rw [List.map_map]
  refine List.map_congr_left fun m _ => ?_
  show (if (Sum.inr m : Key) = Sum.inr n then _ else _) = _
  unfold fset
  by_cases e : m = n
  · rw [if_pos (by rw [e]), if_pos e]
  · rw [if_neg (fun z => e (Sum.inr.inj z)), if_neg e]
theorem kvI_new {ns : List Str} {f : Str → Int} {n : Str} (h : n ∉ ns) : putK (kvI ns f) (Sum.inr n : Key) (.int (f n)) = kvI (ns ++ [n]) f := by
  rw [putK_new _ (kvI_none h)]
  unfold kvI
  rw [List.map_append]
  rfl
theorem kvI_len (ns : List Str) (f : Str → Int) : (kvI ns f).length = ns.length := List.length_map _
/-- the shelves -/
def DA (H : Hp) (a : Addr) (es : List Ch) : Prop := ∃ kvs, H a = some (.dK kvs) ∧ kvs.length ≤ es.length ∧ ∀ ch ∈ es, ∀ w i j, hs ch = some (w, i, j) → ∃ q, valV kvs (Sum.inr (hn ch) : Key) = some (.ref q) ∧ H q = some (.tup [.str (wayS w), .int i, .int j])
def DB (H : Hp) (b : Addr) (es : List Ch) (f : Str → Int) : Prop := H b = some (.dK (kvI (plL es) f))
def shN (ch : Ch) : List Str := (chF ch).map (·.1)
def DC (H : Hp) (c : Addr) (es : List Ch) : Prop := ∃ kvs, H c = some (.dK kvs) ∧ kvs.length ≤ es.length ∧ ∀ ch ∈ es, ∃ l, valV kvs (Sum.inr (hn ch) : Key) = some (.ref l) ∧ H l = some (.lst ((shN ch).map V.str))
def mf (sc : V) (a b c : Addr) : List (Str × V) := [("_scene", sc), ("_shelves", .ref a), ("_places", .ref b), ("_outward", .ref c)]
end SG
namespace SG
open PySem PySem.Spec PyProof.Rows L2
/-- all but dicts stay -/
def Nd (H H' : Hp) : Prop := ∀ q o, H q = some o → (∀ kvs, o ≠ .dK kvs) → H' q = some o
theorem Fr.nd {S : List Addr} {H H' : Hp} (f : Fr S H H') (hd : ∀ s ∈ S, ∃ kvs, H s = some (.dK kvs)) : Nd H H' := fun q o e n => f q o e fun m => by
  obtain ⟨kvs, z⟩ := hd q m
  rw [z] at e
  exact n kvs (Option.some.inj e).symm
theorem Nd.tp {H H' : Hp} (n : Nd H H') : Tp H H' := fun b xs e => n b _ e (by intro _ z; cases z)
theorem Nd.lst {H H' : Hp} (n : Nd H H') {l : Addr} {xs : List V} (e : H l = some (.lst xs)) : H' l = some (.lst xs) := n l _ e (by intro _ z; cases z)
theorem Nd.ins {H H' : Hp} (n : Nd H H') {l C dx : Addr} {fs : List (Str × V)} (e : H l = some (.ins C dx fs)) : H' l = some (.ins C dx fs) := n l _ e (by intro _ z; cases z)
theorem Nd.trans {H H1 H2 : Hp} (a : Nd H H1) (b : Nd H1 H2) : Nd H H2 := fun q o e n => b q o (a q o e n) n
theorem Nd.same {H H' : Hp} (s : Same H H') : Nd H H' := fun q o e _ => s q o e
theorem Nd.put {H : Hp} {a : Addr} {k1 k2 : List (Key × V)} (h : H a = some (.dK k1)) : Nd H (upd H a (.dK k2)) := fun q o e n => by
  rw [upd_ne (fun z => by rw [z, h] at e; exact n _ (Option.some.inj e).symm)]
  exact e
theorem Nd.fresh {H H' : Hp} {p : Addr} {o : HO} (n : Nd H H') (h : H p = none) : Nd H (upd H' p o) := fun q u e m => by
  rw [upd_ne (fun z => by rw [z, h] at e; cases e)]
  exact n q u e m
theorem Fr.freshU {S : List Addr} {H H' : Hp} {p : Addr} {o : HO} (n : Fr S H H') (h : H p = none) : Fr S H (upd H' p o) := fun q u e m => by
  rw [upd_ne (fun z => by rw [z, h] at e; cases e)]
  exact n q u e m
variable {H H' : Hp} {a b c q l : Addr} {es : List Ch} {ch : Ch} {f : Str → Int} {n : Str} {w : Bool} {i j : Int}
theorem DA.keep (h : DA H a es) (e : ∀ o, H a = some o → H' a = some o) (t : Tp H H') : DA H' a es := by
  obtain ⟨kvs, h1, h2, h3⟩ := h
  refine ⟨kvs, e _ h1, h2, fun ch hc w i j hw => ?_⟩
  obtain ⟨q, q1, q2⟩ := h3 ch hc w i j hw
  exact ⟨q, q1, t _ _ q2⟩
theorem DC.keep (h : DC H c es) (e : ∀ o, H c = some o → H' c = some o) (t : Nd H H') : DC H' c es := by
  obtain ⟨kvs, h1, h2, h3⟩ := h
  refine ⟨kvs, e _ h1, h2, fun ch hc => ?_⟩
  obtain ⟨q, q1, q2⟩ := h3 ch hc
  exact ⟨q, q1, t.lst q2⟩
theorem DB.keep (h : DB H b es f) (e : ∀ o, H b = some o → H' b = some o) : DB H' b es f := e _ h
theorem DA.none (h : DA H a es) (e : hs ch = none) : DA H a (es ++ [ch]) := by
  obtain ⟨kvs, h1, h2, h3⟩ := h
  refine ⟨kvs, h1, by rw [List.length_append]; omega, fun ch' hc w i j hw => ?_⟩
  rcases List.mem_append.mp hc with hc | hc
  · exact h3 ch' hc w i j hw
  · rw [List.mem_singleton.mp hc, e] at hw
    cases hw
theorem small100 {n : Nat} (h : n ≤ 100) : n < sizeLine := Nat.lt_of_le_of_lt h (by decide)
theorem DA.some (h : DA H a es) (few : es.length ≤ 100) (e : hs ch = some (w, i, j)) (hq : H q = some (.tup [.str (wayS w), .int i, .int j])) (nin : hn ch ∉ es.map hn) :
    ∃ H', DPut H a (.str (hn ch)) (.ref q) H' ∧ DA H' a (es ++ [ch]) ∧ Fr [a] H H' ∧ Nd H H' := by
  obtain ⟨kvs, h1, h2, h3⟩ := h
  have t : Nd H (upd H a (.dK (putK kvs (Sum.inr (hn ch) : Key) (.ref q)))) := Nd.put h1
  refine ⟨_, DPut.k (k := Sum.inr (hn ch)) h1 (small100 (by omega)), ⟨_, upd_same, Nat.le_trans (length_putK ..) (by rw [List.length_append]; show _ ≤ es.length + 1; omega), fun ch' hc w' i' j' hw => ?_⟩, Fr.put (by simp), t⟩
  rw [valV_put]
  rcases List.mem_append.mp hc with hc | hc
  · rw [if_neg (fun z => nin (List.mem_map.mpr ⟨ch', hc, Sum.inr.inj z⟩))]
    obtain ⟨q', q1, q2⟩ := h3 ch' hc w' i' j' hw
    exact ⟨q', q1, t.tp _ _ q2⟩
  · rw [List.mem_singleton.mp hc] at hw ⊢
    rw [e] at hw
    cases hw
    rw [if_pos rfl]
    exact ⟨q, rfl, t.tp _ _ hq⟩
theorem DB.none (h : DB H b es f) (e : hs ch = none) : DB H b (es ++ [ch]) f := by
  unfold DB at h ⊢
  rw [plL_app, show plL [ch] = [] from by unfold plL; rw [List.filter_cons_of_neg (by rw [e]; decide)]; rfl, List.append_nil]
  exact h
theorem plL_one (e : (hs ch).isSome = true) : plL [ch] = [hn ch] := by
  unfold plL
  rw [show List.filter (fun c => (hs c).isSome) [ch] = [ch] by simp [e]]
  rfl
theorem plL_sub {es : List Ch} {n : Str} (h : n ∈ plL es) : n ∈ es.map hn := by
  obtain ⟨c, hc, e⟩ := List.mem_map.mp h
  exact List.mem_map.mpr ⟨c, (List.mem_filter.mp hc).1, e⟩
theorem plL_len (es : List Ch) : (plL es).length ≤ es.length := by
  unfold plL
  rw [List.length_map]
  exact List.length_filter_le _ _
theorem DB.some (h : DB H b es f) (few : es.length ≤ 100) (e : hs ch = some (w, i, j)) (nin : hn ch ∉ es.map hn) (z : f (hn ch) = 0) :
    ∃ H', DPut H b (.str (hn ch)) (.int 0) H' ∧ DB H' b (es ++ [ch]) f ∧ Fr [b] H H' ∧ Nd H H' := by
  have hl : (kvI (plL es) f).length < sizeLine := by rw [kvI_len]; exact small100 (Nat.le_trans (plL_len es) few)
  refine ⟨_, DPut.k (k := Sum.inr (hn ch)) h hl, ?_, Fr.put (by simp), Nd.put h⟩
  unfold DB
  rw [upd_same, ← z, kvI_new (fun m => nin (plL_sub m)), plL_app, plL_one (by rw [e]; rfl)]
theorem DC.snoc (h : DC H c es) (few : es.length ≤ 100) (hl : H l = Option.some (.lst ((shN ch).map V.str))) (nin : hn ch ∉ es.map hn) :
    ∃ H', DPut H c (.str (hn ch)) (.ref l) H' ∧ DC H' c (es ++ [ch]) ∧ Fr [c] H H' ∧ Nd H H' := by
  obtain ⟨kvs, h1, h2, h3⟩ := h
  have t : Nd H (upd H c (.dK (putK kvs (Sum.inr (hn ch) : Key) (.ref l)))) := Nd.put h1
  refine ⟨_, DPut.k (k := Sum.inr (hn ch)) h1 (small100 (by omega)), ⟨_, upd_same, Nat.le_trans (length_putK ..) (by rw [List.length_append]; show _ ≤ es.length + 1; omega), fun ch' hc => ?_⟩, Fr.put (by simp), t⟩
  rw [valV_put]
  rcases List.mem_append.mp hc with hc | hc
  · rw [if_neg (fun z => nin (List.mem_map.mpr ⟨ch', hc, Sum.inr.inj z⟩))]
    obtain ⟨q', q1, q2⟩ := h3 ch' hc
    exact ⟨q', q1, t.lst q2⟩
  · rw [List.mem_singleton.mp hc, if_pos rfl]
    exact ⟨l, rfl, t.lst hl⟩
theorem Tp.putL {p : Addr} {xs : List V} {o : HO} (h : H p = Option.some (.lst xs)) : Tp H (upd H p o) := fun b ys e => by
  rw [upd_ne (fun z => by rw [z, h] at e; cases e)]
  exact e
theorem nmsT_at {ks : List Tr} {i : Nat} {q : Tr} (h : ks[i]? = Option.some q) : nmsT ks = nmsT (ks.take i) ++ (q.nms ++ nmsT (ks.drop (i + 1))) := by
  obtain ⟨hi, e⟩ := List.getElem?_eq_some_iff.mp h
  have sp : ks = ks.take i ++ q :: ks.drop (i + 1) := by rw [← e, ← List.drop_eq_getElem_cons hi, List.take_append_drop]
  conv => lhs; rw [sp, nmsT_app]
  rfl
theorem chsL_snoc {ks : List Tr} {i : Nat} {q : Tr} (h : ks[i]? = Option.some q) (c : Ch) : chsL c (ks.take (i + 1)) = chsL c (ks.take i) ++ q.chs c := by
  obtain ⟨hi, e⟩ := List.getElem?_eq_some_iff.mp h
  rw [List.take_succ_eq_append_getElem hi, e, chsL_app]
  show _ ++ (q.chs c ++ []) = _
  rw [List.append_nil]
theorem shN_len (ch : Ch) : (shN ch).length ≤ ch.length := by
  unfold shN chF
  rw [List.length_map]
  exact List.length_filter_le _ _
theorem DA.isD (h : DA H a es) : ∃ kvs, H a = Option.some (.dK kvs) := by
  obtain ⟨kvs, h1, _⟩ := h
  exact ⟨kvs, h1⟩
theorem DC.isD (h : DC H c es) : ∃ kvs, H c = Option.some (.dK kvs) := by
  obtain ⟨kvs, h1, _⟩ := h
  exact ⟨kvs, h1⟩
theorem DB.isD (h : DB H b es f) : ∃ kvs, H b = Option.some (.dK kvs) := ⟨_, h⟩
theorem or_mk {a b : TT} {σ : L2.St} {H : Hp} {Q : Bool → Hp → Prop} {c d : Bool} (ha : ∀ Q1 : Bool → Hp → Prop, Q1 c H → a σ H Q1) (hb : ∀ Q1 : Bool → Hp → Prop, Q1 d H → b σ H Q1) (q : Q (c || d) H) : tOr a b σ H Q := by
  refine ha _ ?_
  cases c with
  | true => exact q
  | false => exact hb _ q
theorem and_mk {a b : TT} {σ : L2.St} {H : Hp} {Q : Bool → Hp → Prop} {c d : Bool} (ha : ∀ Q1 : Bool → Hp → Prop, Q1 c H → a σ H Q1) (hb : c = true → ∀ Q1 : Bool → Hp → Prop, Q1 d H → b σ H Q1) (q : Q (c && d) H) : tAnd a b σ H Q := by
  refine ha _ ?_
  cases c with
  | true => exact hb rfl _ q
  | false => exact q
theorem seq_if {c : TT} {t u r : TS} {D : Ends} {σ : L2.St} {H : Hp} (h : c σ H fun b H1 => if b = true then t { D with nx := r D } σ H1 else u { D with nx := r D } σ H1) : tSeq (tIfS c t u) r D σ H := h
theorem if_mk {c : TT} {t u : TS} {D : Ends} {σ : L2.St} {H : Hp} (h : c σ H fun b H1 => if b = true then t D σ H1 else u D σ H1) : tIfS c t u D σ H := h
end SG
namespace SG
open PySem PySem.Spec PyProof.Rows L2
def spPut (C : Addr) (d : Nat) : Sp := fun vs H Q _ => ∃ (m o dx a b c : Addr) (sc : V) (p : Tr) (es : List Ch) (ch : Ch), vs = [.ref m, .ref p.a, .ref o] ∧ H m = some (.ins C dx (mf sc a b c)) ∧ PtAt H d p ∧ H o = some (.lst ((shN ch).map V.str)) ∧ DA H a es ∧ DB H b es (fun _ => 0) ∧ DC H c es ∧
  (∀ n ∈ p.nms, n ∉ es.map hn) ∧ p.nms.Nodup ∧ es.length + p.nms.length ≤ 100 ∧ ch.length + d ≤ 20 ∧ (a ≠ b ∧ a ≠ c ∧ b ≠ c) ∧
  ∀ H', DA H' a (es ++ p.chs ch) → DB H' b (es ++ p.chs ch) (fun _ => 0) → DC H' c (es ++ p.chs ch) → Fr [a, b, c] H H' → Q .non H'
theorem bs1 : (("_shelves" : Str) == "_scene") = false := by decide +kernel
theorem bs2 : (("_places" : Str) == "_scene") = false := by decide +kernel
theorem bs3 : (("_places" : Str) == "_shelves") = false := by decide +kernel
theorem bs4 : (("_outward" : Str) == "_scene") = false := by decide +kernel
theorem bs5 : (("_outward" : Str) == "_shelves") = false := by decide +kernel
theorem bs6 : (("_outward" : Str) == "_places") = false := by decide +kernel
theorem lk_scene {sc : V} {a b c : Addr} : (mf sc a b c).lookup ("_scene" : Str) = some sc := by simp [mf, List.lookup]
theorem lk_shelves {sc : V} {a b c : Addr} : (mf sc a b c).lookup ("_shelves" : Str) = some (.ref a) := by simp [mf, List.lookup, bs1]
theorem lk_places {sc : V} {a b c : Addr} : (mf sc a b c).lookup ("_places" : Str) = some (.ref b) := by simp [mf, List.lookup, bs2, bs3]
theorem lk_outward {sc : V} {a b c : Addr} : (mf sc a b c).lookup ("_outward" : Str) = some (.ref c) := by simp [mf, List.lookup, bs4, bs5, bs6]
theorem lk_no {sc : V} {a b c : Addr} {x : Str} (h1 : (x == ("_scene" : Str)) = false) (h2 : (x == ("_shelves" : Str)) = false) (h3 : (x == ("_places" : Str)) = false) (h4 : (x == ("_outward" : Str)) = false) : (mf sc a b c).lookup x = none := by simp [mf, List.lookup, h1, h2, h3, h4]
theorem lk_put_in {sc : V} {a b c : Addr} : (mf sc a b c).lookup ("_put_in" : Str) = none := lk_no (by decide +kernel) (by decide +kernel) (by decide +kernel) (by decide +kernel)
theorem lk_take {sc : V} {a b c : Addr} : (mf sc a b c).lookup ("_take" : Str) = none := lk_no (by decide +kernel) (by decide +kernel) (by decide +kernel) (by decide +kernel)
theorem lk_step {sc : V} {a b c : Addr} : (mf sc a b c).lookup ("step" : Str) = none := lk_no (by decide +kernel) (by decide +kernel) (by decide +kernel) (by decide +kernel)
theorem lk_plcs {sc : V} {a b c : Addr} : (mf sc a b c).lookup ("places" : Str) = none := lk_no (by decide +kernel) (by decide +kernel) (by decide +kernel) (by decide +kernel)
theorem lk_copy {sc : V} {a b c : Addr} : (mf sc a b c).lookup ("copy" : Str) = none := lk_no (by decide +kernel) (by decide +kernel) (by decide +kernel) (by decide +kernel)
theorem pg1 : ¬ (("_scene" : Str) = "_shelves") := by decide +kernel
theorem pg2 : ¬ (("_scene" : Str) = "_places") := by decide +kernel
theorem pg3 : ¬ (("_scene" : Str) = "_outward") := by decide +kernel
theorem pg4 : ¬ (("_shelves" : Str) = "_places") := by decide +kernel
theorem pg5 : ¬ (("_shelves" : Str) = "_outward") := by decide +kernel
theorem pg6 : ¬ (("_places" : Str) = "_outward") := by decide +kernel
theorem pf2 {x y : V} : putF "_shelves" y [("_scene", x)] = ([("_scene", x), ("_shelves", y)] : List (Str × V)) := by simp [putF, pg1]
theorem pf3 {x y z : V} : putF "_places" z [("_scene", x), ("_shelves", y)] = ([("_scene", x), ("_shelves", y), ("_places", z)] : List (Str × V)) := by simp [putF, pg2, pg4]
theorem pf4 {x : V} {a b c : Addr} : putF "_outward" (.ref c) [("_scene", x), ("_shelves", .ref a), ("_places", .ref b)] = mf x a b c := by simp [putF, pg3, pg5, pg6, mf]
theorem pf5 {x : V} {a b c d : Addr} : putF "_places" (.ref d) (mf x a b c) = mf x a d c := by simp [putF, pg2, pg4, mf]
section
variable {P : Program} {w : World} {K : PySem.W.Frag} {mg : Str → Option Value} {base : Heap}
theorem ok_put {C : Addr} {d : Nat} (D : Dm K mg C "_put_in" "Shelves._put_in" s_put_in ["self", "part", "outer"]) (T : Txt K mg) (Tc : TxShelves K mg C) (c_put_in : C8.Met P w K mg base (d + 1) C "_put_in" (spPut C d) []) : C8.Met P w K mg base (d + 2) C "_put_in" (spPut C (d + 1)) [] := by
  refine D.ok sc_put_in (fun vs H Q E h => ?_) (fun f cdv A outer s H vs Q E hr h => ?_)
  · obtain ⟨_, _, _, _, _, _, _, _, _, _, rfl, _⟩ := h
    rfl
  obtain ⟨m, o, dx, a, b, c, sc, p, es, ch, rfl, hm, hp, ho, ha, hb, hc, nin, nd, few, chl, nabc, k⟩ := h
  have hu := hu_of hr
  obtain ⟨_, mNAME⟩ := T.mNAMEx
  obtain ⟨_, mSHELF⟩ := T.mSHELFx
  obtain ⟨_, mPARTS⟩ := T.mPARTSx
  refine ⟨_, -- name = part[NAME]
    (pss_cons (ps_set (i := 3) sc_put_in.nd rfl (Or.inl rfl) (pe_ix ix_tup (pv 1) (pe_glob (v := .int 0) rfl mNAME ⟨_, rfl⟩) (fun _ _ => rfl)))
    (pss_cons (ps_set (i := 4) sc_put_in.nd rfl (Or.inl rfl) (pe_callTy call_list_of rfl T.m_list (by decide +kernel) (pa_cons (pv 2) pa_nil)))
    (C8.pss_cut (ps_if (pt_cmp (pc_notN (pe_ix ix_tup (pv 1) (pe_glob (v := .int 3) rfl mSHELF ⟨_, rfl⟩) (fun _ _ => rfl))))
      (pss_cons (ps_dput hu (pe_fld (pv 0) rfl) (pv 3) (pe_ix ix_tup (pv 1) (pe_glob (v := .int 3) rfl mSHELF ⟨_, rfl⟩) (fun _ _ => rfl)) rfl)
      (pss_cons (ps_dput hu (pe_fld (pv 0) rfl) (pv 3) pe_int rfl)
      (pss_one (ps_expr (pe_bm PySem.F.plainAttrs_list PySem.F.slot_list_insert PySem.F.type_list_insert mt_insert (pv 4) (pa_cons pe_int (pa_cons (pv 3) pa_nil)))))))
      pss_nil)
    (pss_cons (ps_dput hu (pe_fld (pv 0) rfl) (pv 3) (pv 4) rfl)
    (pss_one (ps_for PassesOwn.never rfl (pi_tup (pe_ix ix_tup (pv 1) (pe_glob (v := .int 5) rfl mPARTS ⟨_, rfl⟩) (fun _ _ => rfl))) (pg_name (i := 5) sc_put_in.nd rfl (Or.inl rfl))
      (pss_one (ps_expr (C8.pe_mt c_put_in hr (by first | decide | omega) (pv 0) (pa_cons (pv 5) (pa_cons (pv 4) pa_nil))))))))))), ?_⟩
  obtain ⟨ws, ks, bx, ear, sh, h1, h2, h3, h4⟩ := hp
  refine ⟨_, rfl, p.a, _, 0, _, rfl, rfl, SqT.of h1, atI_nat (j := 0) rfl, ?_⟩
  refine ⟨_, rfl, o, _, rfl, .inl (SqL.of ho), ?_⟩
  (intro L L0; generalize hh_ : upd _ L _ = H1; have hL := upd_is hh_; have s1 := same_is hh_ L0; clear hh_)
  have me : hs ((p.nm, p.sh) :: ch) = p.sh := rfl
  have fresh : hn ((p.nm, p.sh) :: ch) ∉ es.map hn := nin p.nm (by rw [nms_eq]; exact List.mem_cons_self)
  have n1 : Nd H H1 := Nd.same s1
  have da := ha.keep (s1 a) n1.tp
  have db := hb.keep (s1 b)
  have dc := hc.keep (s1 c) n1
  have c1 := n1.tp _ _ h1
  have hm1 := n1.ins hm
  have sh1 := h2.tp n1.tp
  have ces : es.length ≤ 100 := by omega
  refine ⟨fun σ Hx => σ = [some (.ref m), some (.ref p.a), some (.ref o), some (.str p.nm), some (.ref L), none] ∧ Hx L = some (.lst ((shN ((p.nm, p.sh) :: ch)).map V.str)) ∧ DA Hx a (es ++ [(p.nm, p.sh) :: ch]) ∧ DB Hx b (es ++ [(p.nm, p.sh) :: ch]) (fun _ => 0) ∧ DC Hx c es ∧ Fr [a, b, c] H Hx ∧ Tp H Hx, ?_, ?_⟩
  · refine ⟨_, rfl, p.a, _, 3, _, rfl, rfl, SqT.of c1, atI_nat (j := 3) rfl, ?_⟩
    rcases e : p.sh with _ | ⟨w', z1, z2⟩
    · rw [e] at sh1
      obtain rfl : sh = .non := sh1
      refine ⟨_, rfl, ite2 (fun z => absurd z (by simp)) fun _ => ?_⟩
      exact ⟨rfl, hL, da.none rfl, db.none rfl, dc, Fr.same s1 _, n1.tp⟩
    · rw [e] at sh1
      obtain ⟨⟨q, rfl, hq⟩, _⟩ := sh1
      refine ⟨_, rfl, ite2 (fun _ => ?_) fun z => absurd (by simp) z⟩
      obtain ⟨H2, p2, da2, f2, n2⟩ := da.some ces (ch := (p.nm, some (w', z1, z2)) :: ch) rfl hq fresh
      have db2 : DB H2 b es fun _ => 0 := db.keep fun o h => f2 b o h (by simp; exact fun z => nabc.1 z.symm)
      have dc2 : DC H2 c es := dc.keep (fun o h => f2 c o h (by simp; exact fun z => nabc.2.1 z.symm)) n2
      obtain ⟨H3, p3, db3, f3, n3⟩ := db2.some ces (ch := (p.nm, some (w', z1, z2)) :: ch) rfl fresh rfl
      have da3 := da2.keep (fun o h => f3 a o h (by simp; exact nabc.1)) n3.tp
      have dc3 : DC H3 c es := dc2.keep (fun o h => f3 c o h (by simp; exact fun z => nabc.2.2 z.symm)) n3
      refine ⟨_, rfl, p.a, _, 3, _, rfl, rfl, SqT.of c1, atI_nat (j := 3) rfl, _, rfl, m, C, dx, _, _, rfl, hm1, Tc.cl, Tc.n_shelves, lk_shelves, _, rfl, a, H2, rfl, p2, ?_⟩
      refine ⟨_, rfl, m, C, dx, _, _, rfl, n2.ins hm1, Tc.cl, Tc.n_places, lk_places, _, rfl, b, H3, rfl, p3, ?_⟩
      have hL3 := n3.lst (n2.lst hL)
      refine ⟨_, rfl, .inl ⟨rfl, _, SqL.of hL3⟩, _, rfl, L, _, 0, _, rfl, rfl, hL3, ?_, by decide, by decide, ?_⟩
      · rw [List.length_map]
        exact small100 (Nat.le_trans (shN_len ch) (by omega))
      obtain ⟨ka, ea⟩ := ha.isD
      obtain ⟨kb, eb⟩ := hb.isD
      obtain ⟨kc, ec⟩ := hc.isD
      have nL : ∀ {q : Addr} {o : HO}, H q = some o → q ≠ L := fun e => ne_of_none e L0
      have n13 : Nd H H3 := n1.trans (n2.trans n3)
      have f13 : Fr [a, b, c] H H3 := ((Fr.same s1 _).trans (f2.mono (by simp))).trans (f3.mono (by simp))
      refine ⟨rfl, upd_same, ?_, ?_, ?_, Fr.freshU f13 L0, (Nd.fresh n13 L0).tp⟩
      · exact da3.keep (fun o e => by rw [upd_ne (nL ea)]; exact e) (Tp.putL hL3)
      · exact db3.keep fun o e => by rw [upd_ne (nL eb)]; exact e
      · exact hc.keep (fun o e => by rw [upd_ne (nL ec)]; exact f3 c o (f2 c o (s1 c o e) (by simp; exact fun z => nabc.2.1 z.symm)) (by simp; exact fun z => nabc.2.2 z.symm)) (Nd.fresh n13 L0)
  · rintro σ Hx ⟨rfl, x1, x2, x3, x4, x5, x6⟩
    obtain ⟨ka, ea⟩ := ha.isD
    obtain ⟨kb, eb⟩ := hb.isD
    obtain ⟨kc, ec⟩ := hc.isD
    have nx : Nd H Hx := x5.nd (by simp; exact ⟨⟨_, ea⟩, ⟨_, eb⟩, ⟨_, ec⟩⟩)
    obtain ⟨H2, p2, dc2, f2, n2⟩ := x4.snoc ces (ch := (p.nm, p.sh) :: ch) x1 fresh
    have da2 := x2.keep (fun o e => f2 a o e (by simp; exact nabc.2.1)) n2.tp
    have db2 := x3.keep (fun o e => f2 b o e (by simp; exact nabc.2.2))
    refine ⟨_, rfl, _, rfl, m, C, dx, _, _, rfl, nx.ins hm, Tc.cl, Tc.n_outward, lk_outward, _, rfl, c, H2, rfl, p2, ?_⟩
    have f02 : Fr [a, b, c] H H2 := x5.trans (f2.mono (by simp))
    have n02 : Nd H H2 := nx.trans n2
    rw [nms_eq] at nd few nin
    rw [List.nodup_cons] at nd
    refine ⟨_, rfl, p.a, _, 5, _, rfl, rfl, SqT.of (n02.tp _ _ h1), atI_nat (j := 5) rfl, ks, rfl, ⟨_, SqT.of (n02.tp _ _ h3)⟩, for_tup (K := K) (a := ks) (xs := p.ks.map fun k => V.ref k.a) (fun i σ Hy => ∃ (k5 : Option V), σ = [some (.ref m), some (.ref p.a), some (.ref o), some (.str p.nm), some (.ref L), k5] ∧ Hy L = some (.lst ((shN ((p.nm, p.sh) :: ch)).map V.str)) ∧
      DA Hy a (es ++ (((p.nm, p.sh) :: ch) :: chsL ((p.nm, p.sh) :: ch) (p.ks.take i))) ∧ DB Hy b (es ++ (((p.nm, p.sh) :: ch) :: chsL ((p.nm, p.sh) :: ch) (p.ks.take i))) (fun _ => 0) ∧ DC Hy c (es ++ (((p.nm, p.sh) :: ch) :: chsL ((p.nm, p.sh) :: ch) (p.ks.take i))) ∧ Fr [a, b, c] H Hy) ?_ (fun i σ Hy _ ⟨_, _, _, _, _, _, z⟩ => SqT.of ((z.nd (by simp; exact ⟨⟨_, ea⟩, ⟨_, eb⟩, ⟨_, ec⟩⟩)).tp _ _ h3)) ?_ ?_⟩
    · exact ⟨none, rfl, n2.lst x1, da2, db2, dc2, f02⟩
    · rintro i y σ Hy hi ⟨k5, rfl, y1, y2, y3, y4, y5⟩
      rw [List.getElem?_map] at hi
      obtain ⟨q, hq, rfl⟩ := Option.map_eq_some_iff.mp hi
      have ny : Nd H Hy := y5.nd (by simp; exact ⟨⟨_, ea⟩, ⟨_, eb⟩, ⟨_, ec⟩⟩)
      have sp := nmsT_at hq
      rw [sp] at nd few nin
      have ndq := nd.2
      rw [List.nodup_append, List.nodup_append] at ndq
      have lc : (chsL ((p.nm, p.sh) :: ch) (p.ks.take i)).length = (nmsT (p.ks.take i)).length := by rw [← hn_chsL (p.ks.take i) ((p.nm, p.sh) :: ch), List.length_map]
      simp only [List.length_cons, List.length_append] at few
      refine ⟨_, rfl, m, dx, _, rfl, ny.ins hm, lk_put_in, _, rfl, _, rfl, m, L, dx, a, b, c, sc, q, _, (p.nm, p.sh) :: ch, rfl, ny.ins hm, (h4 q (List.mem_of_getElem? hq)).tp ny.tp, y1, y2, y3, y4, ?_, ndq.2.1.1, ?_, ?_, nabc, ?_⟩
      · intro n hn' hm'
        rw [List.map_append, List.map_cons, hn_chsL] at hm'
        rcases List.mem_append.mp hm' with hm' | hm'
        · exact nin n (List.mem_cons_of_mem _ (List.mem_append_right _ (List.mem_append_left _ hn'))) hm'
        rcases List.mem_cons.mp hm' with hm' | hm'
        · exact nd.1 (by rw [show p.nm = n from hm'.symm]; exact List.mem_append_right _ (List.mem_append_left _ hn'))
        · exact ndq.2.2 n hm' n (List.mem_append_left _ hn') rfl
      · rw [List.length_append, List.length_cons, lc]
        omega
      · rw [List.length_cons]
        omega
      · intro Hz z1 z2 z3 z4
        refine ⟨_, rfl, ?_, ?_, ?_, ?_, y5.trans z4⟩
        · have nz : Nd Hy Hz := z4.nd (by simp; exact ⟨y2.isD, y3.isD, y4.isD⟩)
          exact nz.lst y1
        · simpa only [List.append_assoc, List.cons_append, chsL_snoc hq] using z1
        · simpa only [List.append_assoc, List.cons_append, chsL_snoc hq] using z2
        · simpa only [List.append_assoc, List.cons_append, chsL_snoc hq] using z3
    · rintro σ Hy ⟨k5, rfl, y1, y2, y3, y4, y5⟩
      rw [List.length_map, List.take_length] at y2 y3 y4
      rw [chs_eq] at k
      exact k Hy y2 y3 y4 y5
theorem all_put {C : Addr} (D : Dm K mg C "_put_in" "Shelves._put_in" s_put_in ["self", "part", "outer"]) (T : Txt K mg) (Tc : TxShelves K mg C) : ∀ d : Nat, C8.Met P w K mg base (d + 1) C "_put_in" (spPut C d) []
  | 0 => met_mono (D.none fun _ _ _ _ h => by
      obtain ⟨_, _, _, _, _, _, _, _, _, _, _, _, z, _⟩ := h
      exact z) (Nat.zero_le _)
  | d + 1 => ok_put D T Tc (all_put D T Tc d)
/-- a mill: f the places of its shelves -/
def MillAt (C : Addr) (H : Hp) (m a b c : Addr) (sc : V) (es : List Ch) (f : Str → Int) : Prop :=
  ∃ (dx : Addr), H m = some (.ins C dx (mf sc a b c)) ∧ DA H a es ∧ DB H b es f ∧ DC H c es ∧ (a ≠ b ∧ a ≠ c ∧ b ≠ c)
def spInit (C : Addr) : Sp := fun vs H Q _ => ∃ (m dx r : Addr) (x y : V) (p : Tr), vs = [.ref m, .ref r] ∧ H m = some (.ins C dx []) ∧ H r = some (.tup [.ref p.a, x, y]) ∧ PtAt H 6 p ∧ p.nms.Nodup ∧ p.nms.length ≤ 100 ∧
  ∀ H' a b c, MillAt C H' m a b c (.ref r) (p.chs []) (fun _ => 0) → (H a = none ∧ H b = none ∧ H c = none) → Fr [m] H H' → Q .non H'
theorem ok_init {C : Addr} (D : Di K mg "Shelves" C "Shelves.__init__" s__init__ ["self", "scene"]) (T : Txt K mg) (Tc : TxShelves K mg C) (c_put_in : C8.Met P w K mg base 7 C "_put_in" (spPut C 6) []) : C8.Mak P w K mg base 8 "Shelves" C (spInit C) [] := by
  refine D.ok sc__init__ (fun vs H Q E h => ?_) (fun f cdv A outer s H vs Q E hr h => ?_)
  · obtain ⟨_, _, _, _, _, _, rfl, _⟩ := h
    rfl
  obtain ⟨m, dx, r, x, y, p, rfl, hm, hr0, hp, nd, few, k⟩ := h
  have hu := hu_of hr
  refine ⟨_, -- self._scene = scene
    (pss_cons (ps_fld (pv 0) (pv 1) rfl)
    (pss_cons (ps_fld (pv 0) pe_dnewK rfl)
    (pss_cons (ps_fld (pv 0) pe_dnewK rfl)
    (pss_cons (ps_fld (pv 0) pe_dnewK rfl)
    (pss_one (ps_expr (C8.pe_mt c_put_in hr (by first | decide | omega) (pv 0) (pa_cons (pe_ix ix_tup (pv 1) pe_int (fun _ _ => rfl)) (pa_cons (pe_lst pa_nil) pa_nil))))))))), ?_⟩
  refine ⟨_, rfl, _, rfl, m, C, dx, _, rfl, hm, Tc.cl, Tc.n_scene, (by show 0 < 1000; decide), ?_⟩
  have hm1 : (upd H m (.ins C dx [("_scene", .ref r)])) m = some (.ins C dx [("_scene", .ref r)]) := upd_same
  have f1 : Fr [m] H (upd H m (.ins C dx [("_scene", .ref r)])) := Fr.put (by simp)
  show tSeq _ _ _ _ (upd H m (.ins C dx [("_scene", .ref r)]))
  generalize upd H m (.ins C dx [("_scene", .ref r)]) = H1 at *
  intro a a0
  have f2 : Fr [m] H1 (upd H1 a (.dK [])) := Fr.new a0
  have am : a ≠ m := (ne_of_none hm1 a0).symm
  have e2 : (upd H1 a (.dK [])) a = some (.dK []) := upd_same
  have hm2 : (upd H1 a (.dK [])) m = some (.ins C dx [("_scene", .ref r)]) := by rw [upd_ne am.symm]; exact hm1
  generalize upd H1 a (.dK []) = H2 at *
  refine ⟨_, rfl, m, C, dx, _, rfl, hm2, Tc.cl, Tc.n_shelves, (by show 1 < 1000; decide), ?_⟩
  rw [pf2]
  have f3 : Fr [m] H2 (upd H2 m (.ins C dx [("_scene", .ref r), ("_shelves", .ref a)])) := Fr.put (by simp)
  have hm3 : (upd H2 m (.ins C dx [("_scene", .ref r), ("_shelves", .ref a)])) m = some (.ins C dx [("_scene", .ref r), ("_shelves", .ref a)]) := upd_same
  have e3 := f3 a _ e2 (by simp; exact am)
  generalize upd H2 m (.ins C dx [("_scene", .ref r), ("_shelves", .ref a)]) = H3 at *
  intro b b0
  have f4 : Fr [m] H3 (upd H3 b (.dK [])) := Fr.new b0
  have bm : b ≠ m := (ne_of_none hm3 b0).symm
  have ab : a ≠ b := ne_of_none e3 b0
  have e4 : (upd H3 b (.dK [])) a = some (.dK []) := by rw [upd_ne ab]; exact e3
  have b4 : (upd H3 b (.dK [])) b = some (.dK []) := upd_same
  have hm4 : (upd H3 b (.dK [])) m = some (.ins C dx [("_scene", .ref r), ("_shelves", .ref a)]) := by rw [upd_ne bm.symm]; exact hm3
  generalize upd H3 b (.dK []) = H4 at *
  refine ⟨_, rfl, m, C, dx, _, rfl, hm4, Tc.cl, Tc.n_places, (by show 2 < 1000; decide), ?_⟩
  rw [pf3]
  have f5 : Fr [m] H4 (upd H4 m (.ins C dx [("_scene", .ref r), ("_shelves", .ref a), ("_places", .ref b)])) := Fr.put (by simp)
  have hm5 : (upd H4 m (.ins C dx [("_scene", .ref r), ("_shelves", .ref a), ("_places", .ref b)])) m = some (.ins C dx [("_scene", .ref r), ("_shelves", .ref a), ("_places", .ref b)]) := upd_same
  have e5 := f5 a _ e4 (by simp; exact am)
  have b5 := f5 b _ b4 (by simp; exact bm)
  generalize upd H4 m (.ins C dx [("_scene", .ref r), ("_shelves", .ref a), ("_places", .ref b)]) = H5 at *
  intro c c0
  have f6 : Fr [m] H5 (upd H5 c (.dK [])) := Fr.new c0
  have cm : c ≠ m := (ne_of_none hm5 c0).symm
  have ac : a ≠ c := ne_of_none e5 c0
  have bc : b ≠ c := ne_of_none b5 c0
  have e6 : (upd H5 c (.dK [])) a = some (.dK []) := by rw [upd_ne ac]; exact e5
  have b6 : (upd H5 c (.dK [])) b = some (.dK []) := by rw [upd_ne bc]; exact b5
  have c6 : (upd H5 c (.dK [])) c = some (.dK []) := upd_same
  have hm6 : (upd H5 c (.dK [])) m = some (.ins C dx [("_scene", .ref r), ("_shelves", .ref a), ("_places", .ref b)]) := by rw [upd_ne cm.symm]; exact hm5
  generalize upd H5 c (.dK []) = H6 at *
  refine ⟨_, rfl, m, C, dx, _, rfl, hm6, Tc.cl, Tc.n_outward, (by show 3 < 1000; decide), ?_⟩
  rw [pf4]
  have f7 : Fr [m] H6 (upd H6 m (.ins C dx (mf (.ref r) a b c))) := Fr.put (by simp)
  have hm7 : (upd H6 m (.ins C dx (mf (.ref r) a b c))) m = some (.ins C dx (mf (.ref r) a b c)) := upd_same
  have e7 := f7 a _ e6 (by simp; exact am)
  have b7 := f7 b _ b6 (by simp; exact bm)
  have c7 := f7 c _ c6 (by simp; exact cm)
  generalize upd H6 m (.ins C dx (mf (.ref r) a b c)) = H7 at *
  have g7 : Fr [m] H H7 := f1.trans (f2.trans (f3.trans (f4.trans (f5.trans (f6.trans f7)))))
  have t7 : Tp H H7 := fun q xs e => g7 q _ e (by simp; intro z; rw [z, hm] at e; cases e)
  have b0H : H b = none := by
    cases e : H b with
    | none => rfl
    | some o =>
      have := (f1.trans (f2.trans f3)) b o e (by simp; exact bm)
      rw [b0] at this
      cases this
  have a0H : H a = none := by
    cases e : H a with
    | none => rfl
    | some o =>
      have := f1 a o e (by simp; exact am)
      rw [a0] at this
      cases this
  have c0H : H c = none := by
    cases e : H c with
    | none => rfl
    | some o =>
      have := (f1.trans (f2.trans (f3.trans (f4.trans f5)))) c o e (by simp; exact cm)
      rw [c0] at this
      cases this
  refine ⟨_, rfl, m, dx, _, rfl, hm7, lk_put_in, _, rfl, r, _, 0, _, rfl, rfl, SqT.of (t7 _ _ hr0), atI_nat (j := 0) rfl, (by show 0 ≤ sizeLine; decide), ?_⟩
  (intro l l0; generalize hh_ : upd _ l _ = H8; have hl := upd_is hh_; have s8 := same_is hh_ l0; clear hh_)
  refine ⟨m, l, dx, a, b, c, .ref r, p, [], [], rfl, s8 _ _ hm7, (hp.tp t7).tp (Tp.same s8), hl, ⟨[], s8 _ _ e7, Nat.le_refl _, fun _ h => nomatch h⟩, s8 _ _ b7, ⟨[], s8 _ _ c7, Nat.le_refl _, fun _ h => nomatch h⟩, (fun _ _ h => nomatch h), nd, (by show 0 + _ ≤ 100; omega), (by decide), ⟨ab, ac, bc⟩, fun H' z1 z2 z3 z4 => ?_⟩
  have nm' : m ∉ [a, b, c] := by simp; exact ⟨am.symm, bm.symm, cm.symm⟩
  refine k H' a b c ⟨dx, z4 _ _ (s8 _ _ hm7) nm', z1, z2, z3, ab, ac, bc⟩ ⟨a0H, b0H, c0H⟩ ?_
  intro q o e nq
  refine z4 q o (s8 _ _ (g7 q o e nq)) ?_
  simp
  exact ⟨fun z => (by rw [z, a0H] at e; cases e), fun z => (by rw [z, b0H] at e; cases e), fun z => (by rw [z, c0H] at e; cases e)⟩
end
theorem MillAt.keep {C : Addr} {H H' : Hp} {m a b c : Addr} {sc : V} {es : List Ch} {f : Str → Int} {S : List Addr} (x : MillAt C H m a b c sc es f) (f' : Fr S H H') (n : Nd H H') (ha : a ∉ S) (hb : b ∉ S) (hc : c ∉ S) : MillAt C H' m a b c sc es f := by
  obtain ⟨dx, h1, h2, h3, h4, h5⟩ := x
  exact ⟨dx, n.ins h1, h2.keep (fun o e => f' a o e ha) n.tp, h3.keep (fun o e => f' b o e hb), h4.keep (fun o e => f' c o e hc) n, h5⟩
theorem MillAt.same {C : Addr} {H H' : Hp} {m a b c : Addr} {sc : V} {es : List Ch} {f : Str → Int} (x : MillAt C H m a b c sc es f) (s : Same H H') : MillAt C H' m a b c sc es f :=
  x.keep (S := []) (Fr.same s _) (Nd.same s) (by simp) (by simp) (by simp)
end SG
namespace SG
open PySem PySem.Spec PyProof.Rows L2
theorem wayS_inj {a b : Bool} : wayS a = wayS b ↔ a = b := by
  cases a <;> cases b <;> simp [wayS] <;> decide +kernel
theorem suf_mem {es : List Ch} (hcl : Closed es) {ch : Ch} (hc : ch ∈ es) {x : Str × Sh} {i : Nat} (h : ch[i]? = some x) : (x :: ch.drop (i + 1)) ∈ es := by
  obtain ⟨hi, e⟩ := List.getElem?_eq_some_iff.mp h
  have sp : ch = ch.take i ++ x :: ch.drop (i + 1) := by rw [← e, ← List.drop_eq_getElem_cons hi, List.take_append_drop]
  rw [sp] at hc
  exact hcl.suf hc (by simp)
theorem chF_mem {ch : Ch} {x : Str × Sh} {i : Nat} (h : (chF ch)[i]? = some x) : x ∈ ch ∧ x.2.isSome = true := List.mem_filter.mp (List.mem_of_getElem? h)
theorem anc {es : List Ch} (hcl : Closed es) {ch : Ch} (hc : ch ∈ es) {x : Str × Sh} (h : x ∈ ch) : ∃ r, (x :: r) ∈ es := by
  obtain ⟨i, e⟩ := List.getElem?_of_mem h
  exact ⟨_, suf_mem hcl hc e⟩
theorem goal_eq (i j x : Int) : (if j < (if i > x then i else x) then j else (if i > x then i else x)) = goal i j x := by
  unfold goal
  split <;> split <;> omega
theorem dec_str {a b : Str} : decide (V.str a = V.str b) = decide (a = b) := by
  rw [Bool.eq_iff_iff]
  simp
theorem dec_int {a b : Int} : decide (V.int a = V.int b) = decide (a = b) := by
  rw [Bool.eq_iff_iff]
  simp
theorem chF_len (ch : Ch) : (chF ch).length ≤ ch.length := List.length_filter_le _ _
theorem ImAll.snoc {H : Hp} : ∀ {vs : List V} {ds : List PyData} {v : V} {d : PyData}, ImAll H vs ds → Im H v d → ImAll H (vs ++ [v]) (ds ++ [d])
  | [], _, _, _, .nil, h => .cons h .nil
  | _ :: _, _, _, _, .cons a b, h => .cons a (ImAll.snoc b h)
def spTake (C : Addr) : Sp := fun vs H Q _ => ∃ (m tl a b c : Addr) (bb : Bool) (l : Int) (H0 : Hp) (sc : V) (es : List Ch) (ch : Ch) (f0 f : Str → Int) (ys : List V), vs = [.ref m, .ref tl, .str (hn ch), .str (wayS bb), .int l] ∧ MillAt C H0 m a b c sc es f0 ∧ H0 tl = none ∧ Fr [b, tl] H0 H ∧ DB H b es f ∧ H tl = some (.lst ys) ∧ ch ∈ es ∧ Closed es ∧ ys.length + ch.length ≤ 100 ∧ es.length ≤ 100 ∧
  ∀ H' zs, H' tl = some (.lst (ys ++ zs)) → ImAll H' zs ((tk bb ch l f).1.map rowP) → DB H' b es (tk bb ch l f).2.2 → Fr [b, tl] H H' → Q (.int (tk bb ch l f).2.1) H'
section
variable {P : Program} {w : World} {K : PySem.W.Frag} {mg : Str → Option Value} {base : Heap}
theorem ok_take {C : Addr} (D : Dm K mg C "_take" "Shelves._take" s_take ["self", "taken", "name", "way", "left"]) (T : Txt K mg) (Tc : TxShelves K mg C) : C8.Met P w K mg base 1 C "_take" (spTake C) [] := by
  refine D.ok sc_take (fun vs H Q E h => ?_) (fun ff cdv A outer s H vs Q E hr h => ?_)
  · obtain ⟨_, _, _, _, _, _, _, _, _, _, _, _, _, _, rfl, _⟩ := h
    rfl
  obtain ⟨m, tl, a, b, c, bb, l, H0, sc, es, ch, f0, f, ys, rfl, ⟨dx, hm, ha, hb0, hc, nab, nac, nbc⟩, t0, f01, hb, ht, hch, hcl, few, fes, k⟩ := h
  have hu := hu_of hr
  refine ⟨_, -- for part in self._outward[name]:
    (pss_cons (ps_for PassesOwn.never rfl (pi_list (pe_dget hu (pe_fld (pv 0) rfl) (pv 2) (fun _ _ => rfl))) (pg_name (i := 5) sc_take.nd rfl (Or.inl rfl))
      (pss_cons (ps_asg (pe_dget hu (pe_fld (pv 0) rfl) (pv 5) (fun _ _ => rfl)) (pg_tup rfl (pgs_cons (pg_name (i := 6) sc_take.nd rfl (Or.inl rfl)) (pgs_cons (pg_name (i := 7) sc_take.nd rfl (Or.inl rfl)) (pgs_cons (pg_name (i := 8) sc_take.nd rfl (Or.inl rfl)) pgs_nil)))))
      (pss_cons (ps_set (i := 9) sc_take.nd rfl (Or.inl rfl) (pe_dget hu (pe_fld (pv 0) rfl) (pv 5) (fun _ _ => rfl)))
      (pss_cons (ps_set (i := 10) sc_take.nd rfl (Or.inl rfl) (pe_callB (call_min2 rfl) (by rfl) T.m_min (by decide +kernel) (pa_cons (pe_callB (call_max2 rfl) (by rfl) T.m_max (by decide +kernel) (pa_cons (pe_op op_add (pv 9) (pv 4)) (pa_cons (pv 7) pa_nil))) (pa_cons (pv 8) pa_nil))))
      (pss_one (ps_if (PW.pt (pw_and (pt_cmpR op_eq (pv 6) (pv 3) (nomark _)) (pw_and1 (pt_cmpR op_ne (pv 10) (pv 9) (nomark _)))))
        (pss_cons (ps_dput hu (pe_fld (pv 0) rfl) (pv 5) (pv 10) rfl)
        (pss_cons (ps_expr (pe_bm PySem.F.plainAttrs_list PySem.F.slot_list_append PySem.F.type_list_append mt_append (pv 1) (pa_cons (pe_tup (pa_cons (pv 5) (pa_cons (pe_op op_sub (pv 10) (pv 9)) (pa_cons (pv 10) pa_nil)))) pa_nil)))
        (pss_one (ps_aug (i := 4) sc_take.nd rfl (Or.inl rfl) (pe_op op_sub (pv 10) (pv 9)) ip_sub))))
        pss_nil))))))
    (pss_one (ps_ret (pv 4)))), ?_⟩
  obtain ⟨kc, c1, c2, c3⟩ := hc
  obtain ⟨ol, ol1, ol2⟩ := c3 ch hch
  obtain ⟨kb, eb⟩ := hb0.isD
  have nt : ∀ {q : Addr} {o : HO}, H0 q = some o → q ≠ tl := fun e => ne_of_none e t0
  have c1H := f01 c _ c1 (by simp; exact ⟨nbc.symm, nt c1⟩)
  have olb : ol ≠ b := ne_of ol2 eb (by intro z; cases z)
  have olH := f01 ol _ ol2 (by simp; exact ⟨olb, nt ol2⟩)
  have mb : m ≠ b := ne_of hm eb (by intro z; cases z)
  have hmH := f01 m _ hm (by simp; exact ⟨mb, nt hm⟩)
  refine ⟨_, rfl, m, C, dx, _, _, rfl, hmH, Tc.cl, Tc.n_outward, lk_outward, _, rfl, c, _, rfl, (by have := DGet.k (k := Sum.inr (hn ch)) c1H; rw [ol1] at this; exact this), ol, rfl, ⟨_, SqL.of olH⟩, ?_⟩
  refine for_list (K := K) (a := ol) (xs := (shN ch).map V.str) (fun i σ Hx => ∃ (l' : Int) (f' : Str → Int) (zs : List V) (rs : List (Str × Int × Int)) (k5 k6 k7 k8 k9 k10 : Option V), σ = [some (.ref m), some (.ref tl), some (.str (hn ch)), some (.str (wayS bb)), some (.int l'), k5, k6, k7, k8, k9, k10] ∧
    Hx tl = some (.lst (ys ++ zs)) ∧ ImAll Hx zs (rs.map rowP) ∧ DB Hx b es f' ∧ Fr [b, tl] H Hx ∧ zs.length ≤ i ∧
    tk bb (chF ch) l f = (rs ++ (tk bb ((chF ch).drop i) l' f').1, (tk bb ((chF ch).drop i) l' f').2)) ?_ (fun i σ Hx _ ⟨_, _, _, _, _, _, _, _, _, _, _, _, _, _, z, _⟩ => SqL.of (z ol _ olH (by simp; exact ⟨olb, nt ol2⟩))) ?_ ?_
  · exact ⟨l, f, [], [], none, none, none, none, none, none, rfl, by rw [List.append_nil]; exact ht, .nil, hb, Fr.refl _ _, Nat.le_refl _, rfl⟩
  · rintro i y σ Hx hi ⟨l', f', zs, rs, k5, k6, k7, k8, k9, k10, rfl, x1, x2, x3, x4, x5, x6⟩
    rw [List.getElem?_map] at hi
    obtain ⟨nm, hnm, rfl⟩ := Option.map_eq_some_iff.mp hi
    unfold shN at hnm
    rw [List.getElem?_map] at hnm
    obtain ⟨⟨nm', sh⟩, hx, rfl⟩ := Option.map_eq_some_iff.mp hnm
    obtain ⟨mem, iss⟩ := chF_mem hx
    obtain ⟨⟨w', i0, j0⟩, rfl⟩ := Option.isSome_iff_exists.mp iss
    obtain ⟨r, hr'⟩ := anc hcl hch mem
    obtain ⟨ka, a1, a2, a3⟩ := ha
    obtain ⟨q, q1, q2⟩ := a3 _ hr' w' i0 j0 rfl
    have f0x := f01.trans x4
    have a1x := f0x a _ a1 (by simp; exact ⟨nab, nt a1⟩)
    have q2x := f0x q _ q2 (by simp; exact ⟨ne_of q2 eb (by intro z; cases z), nt q2⟩)
    have hmx := f0x m _ hm (by simp; exact ⟨mb, nt hm⟩)
    have inp : nm' ∈ plL es := List.mem_map.mpr ⟨_, List.mem_filter.mpr ⟨hr', rfl⟩, rfl⟩
    refine ⟨_, rfl, m, C, dx, _, _, rfl, hmx, Tc.cl, Tc.n_shelves, lk_shelves, _, rfl, a, _, rfl, (by have := DGet.k (k := Sum.inr nm') a1x; rw [show hn ((nm', some (w', i0, j0)) :: r) = nm' from rfl] at q1; rw [q1] at this; exact this), ?_⟩
    refine ⟨q, _, rfl, SqT.of q2x, rfl, _, _, rfl, _, _, rfl, _, _, rfl, rfl, ?_⟩
    refine ⟨_, rfl, m, C, dx, _, _, rfl, hmx, Tc.cl, Tc.n_places, lk_places, _, rfl, b, _, rfl, (by have := DGet.k (k := Sum.inr nm') x3; rw [kvI_val inp] at this; exact this), ?_⟩
    refine ⟨_, rfl, _, rfl, _, _, rfl, rfl, _, rfl, _, _, rfl, _, rfl, _, _, rfl, ?_⟩
    rw [goal_eq]
    have dr : (chF ch).drop i = (nm', some (w', i0, j0)) :: (chF ch).drop (i + 1) := by
      obtain ⟨hi, e⟩ := List.getElem?_eq_some_iff.mp hx
      rw [← e, ← List.drop_eq_getElem_cons hi]
    have il : i < (chF ch).length := (List.getElem?_eq_some_iff.mp hx).1
    have cl := chF_len ch
    rw [dr] at x6
    simp only [tk] at x6
    dsimp only [gName, List.set]
    refine if_mk ?_
    refine and_mk (c := decide (w' = bb)) (d := decide (goal i0 j0 (f' nm' + l') ≠ f' nm')) (fun Q1 q1 => ?_) (fun _ Q1 q1 => ?_) ?_
    · have e : decide (V.str (wayS w') = V.str (wayS bb)) = decide (w' = bb) := by
        rw [dec_str]
        exact decide_eq_decide.mpr wayS_inj
      refine ⟨_, rfl, _, rfl, rfl, _, rfl, ?_⟩
      rw [e]
      exact q1
    · refine ⟨_, rfl, _, rfl, rfl, _, rfl, ?_⟩
      rw [dec_int, ← decide_not]
      exact q1
    generalize hg : goal i0 j0 (f' nm' + l') = g at *
    refine ite2 (fun z => ?_) fun z => ?_
    · have z' : w' = bb ∧ g ≠ f' nm' := by simpa using z
      rw [if_pos z'] at x6
      have hl : (kvI (plL es) f').length < sizeLine := by rw [kvI_len]; exact small100 (Nat.le_trans (plL_len es) fes)
      refine ⟨_, rfl, _, rfl, m, C, dx, _, _, rfl, hmx, Tc.cl, Tc.n_places, lk_places, _, rfl, b, _, rfl, DPut.k (k := Sum.inr nm') x3 hl, ?_⟩
      rw [kvI_put inp]
      have tb : tl ≠ b := ne_of x1 x3 (by intro z; cases z)
      have t1 : (upd Hx b (.dK (kvI (plL es) (fset f' nm' g)))) tl = some (.lst (ys ++ zs)) := by rw [upd_ne tb]; exact x1
      have b1 : DB (upd Hx b (.dK (kvI (plL es) (fset f' nm' g)))) b es (fset f' nm' g) := upd_same
      have fr1 : Fr [b, tl] Hx (upd Hx b (.dK (kvI (plL es) (fset f' nm' g)))) := Fr.put (by simp)
      have tp1 : Tp Hx (upd Hx b (.dK (kvI (plL es) (fset f' nm' g)))) := (Nd.put x3).tp
      generalize upd Hx b (.dK (kvI (plL es) (fset f' nm' g))) = H2 at *
      refine ⟨_, rfl, .inl ⟨rfl, _, SqL.of t1⟩, _, rfl, _, rfl, _, rfl, _, _, rfl, rfl, _, rfl, (by show 3 ≤ sizeLine; decide), ?_⟩
      (intro p p0; generalize hh_ : upd _ p _ = H3; have hp := upd_is hh_; have s3 := same_is hh_ p0; clear hh_)
      have lz : zs.length ≤ i := x5
      refine ⟨tl, _, _, rfl, rfl, s3 _ _ t1, small100 (by rw [List.length_append]; omega), ?_⟩
      have hp4 : (upd H3 tl (.lst ((ys ++ zs) ++ [V.ref p]))) p = some (.tup [.str nm', .int (g - f' nm'), .int g]) := by rw [upd_ne (fun z => by rw [z] at hp; rw [s3 _ _ t1] at hp; cases hp)]; exact hp
      have tp4 : Tp Hx (upd H3 tl (.lst ((ys ++ zs) ++ [V.ref p]))) := tp1.trans ((Tp.same s3).trans (Tp.putL (s3 _ _ t1)))
      have t4 : (upd H3 tl (.lst ((ys ++ zs) ++ [V.ref p]))) tl = some (.lst (ys ++ (zs ++ [V.ref p]))) := by rw [upd_same, List.append_assoc]
      have b4 : DB (upd H3 tl (.lst ((ys ++ zs) ++ [V.ref p]))) b es (fset f' nm' g) := by
        unfold DB
        rw [upd_ne tb.symm]
        exact s3 _ _ b1
      have fr4 : Fr [b, tl] Hx (upd H3 tl (.lst ((ys ++ zs) ++ [V.ref p]))) := fr1.trans ((Fr.same s3 _).trans (Fr.put (by simp)))
      generalize upd H3 tl (.lst ((ys ++ zs) ++ [V.ref p])) = H4 at *
      refine ⟨_, rfl, _, rfl, _, rfl, _, _, rfl, rfl, _, _, rfl, rfl, l' - (g - f' nm'), fset f' nm' g, zs ++ [V.ref p], rs ++ [(nm', g - f' nm', g)], _, _, _, _, _, _, rfl, t4, ?_, b4, x4.trans fr4, ?_, ?_⟩
      · rw [List.map_append]
        exact ImAll.snoc (ImAll.tp tp4 x2) (.tup hp4 (.cons (.str _) (.cons (.int _) (.cons (.int _) .nil))))
      · rw [List.length_append]
        show zs.length + 1 ≤ i + 1
        omega
      · rw [x6, List.append_assoc]
        rfl
    · have z' : ¬ (w' = bb ∧ g ≠ f' nm') := by simpa using z
      rw [if_neg z'] at x6
      exact ⟨l', f', zs, rs, _, _, _, _, _, _, rfl, x1, x2, x3, x4, by omega, x6⟩
  · rintro σ Hx ⟨l', f', zs, rs, k5, k6, k7, k8, k9, k10, rfl, x1, x2, x3, x4, x5, x6⟩
    have e : (chF ch).drop ((shN ch).map V.str).length = [] := by
      apply List.drop_eq_nil_of_le
      rw [List.length_map]
      unfold shN
      rw [List.length_map]
      exact Nat.le_refl _
    rw [e, tk_chF] at x6
    simp only [tk, List.append_nil] at x6
    rw [x6] at k
    refine ⟨_, rfl, ?_⟩
    exact k Hx zs x1 x2 x3 x4
end
/-! ### a step, the places -/
theorem tk_len (b : Bool) : ∀ (ch : Ch) (l : Int) (f : Str → Int), (tk b ch l f).1.length ≤ ch.length
  | [], _, _ => Nat.le_refl _
  | (n, none) :: r, l, f => Nat.le_trans (tk_len b r l f) (by simp)
  | (n, some (w, i, j)) :: r, l, f => by
    unfold tk
    split
    · exact Nat.succ_le_succ (tk_len b r _ _)
    · exact Nat.le_trans (tk_len b r l f) (by simp)
theorem ImAll.len {H : Hp} : ∀ {vs : List V} {ds : List PyData}, ImAll H vs ds → vs.length = ds.length
  | [], _, .nil => rfl
  | _ :: _, _, .cons _ b => congrArg (· + 1) (ImAll.len b)
theorem ImAll.app {H : Hp} : ∀ {vs ws : List V} {ds es : List PyData}, ImAll H vs ds → ImAll H ws es → ImAll H (vs ++ ws) (ds ++ es)
  | [], _, _, _, .nil, h => h
  | _ :: _, _, _, _, .cons a b, h => .cons a (ImAll.app b h)
theorem tp_take {H H' : Hp} {b tl : Addr} {es : List Ch} {f : Str → Int} {ys : List V} (h : Fr [b, tl] H H') (ht : H tl = some (.lst ys)) (hb : DB H b es f) : Tp H H' := fun q xs e => h q _ e (by
  simp
  exact ⟨fun z => (by rw [z, hb] at e; cases e), fun z => (by rw [z, ht] at e; cases e)⟩)
def spStep (C : Addr) : Sp := fun vs H Q _ => ∃ (m a b c : Addr) (dx dy : Int) (sc : V) (es : List Ch) (ch : Ch) (f : Str → Int), vs = [.ref m, .str (hn ch), .int dx, .int dy] ∧ MillAt C H m a b c sc es f ∧ ch ∈ es ∧ Closed es ∧ ch.length ≤ 20 ∧ es.length ≤ 100 ∧
  ∀ H' r tl t2 zs, H' r = some (.tup [.ref tl, .ref t2]) → H' tl = some (.lst zs) → ImAll H' zs ((stp ch dx dy f).1.map rowP) → H' t2 = some (.tup [.int (stp ch dx dy f).2.1.1, .int (stp ch dx dy f).2.1.2]) → H tl = none → MillAt C H' m a b c sc es (stp ch dx dy f).2.2 → Fr [b] H H' → Q (.ref r) H'
def spPlaces (C : Addr) : Sp := fun vs H Q _ => ∃ (m a b c : Addr) (sc : V) (es : List Ch) (f : Str → Int), vs = [.ref m] ∧ MillAt C H m a b c sc es f ∧
  ∀ H' r, H r = none → H' r = some (.dK (kvI (plL es) f)) → Same H H' → Q (.ref r) H'
section
variable {P : Program} {w : World} {K : PySem.W.Frag} {mg : Str → Option Value} {base : Heap}
theorem ok_step {C : Addr} (D : Dm K mg C "step" "Shelves.step" sstep ["self", "name", "dx", "dy"]) (T : Txt K mg) (Tc : TxShelves K mg C) (c_take : C8.Met P w K mg base 1 C "_take" (spTake C) []) : C8.Met P w K mg base 2 C "step" (spStep C) [] := by
  refine D.ok scstep (fun vs H Q E h => ?_) (fun ff cdv A outer s H vs Q E hr h => ?_)
  · obtain ⟨_, _, _, _, _, _, _, _, _, _, rfl, _⟩ := h
    rfl
  obtain ⟨m, a, b, c, dx, dy, sc, es, ch, f, rfl, hM, hch, hcl, few, fes, k⟩ := h
  obtain ⟨dd, hm, ha, hb, hc, nabc⟩ := id hM
  obtain ⟨kb, eb⟩ := hb.isD
  have mb : m ≠ b := ne_of hm eb (by intro z; cases z)
  refine ⟨_, -- taken = []
    (pss_cons (ps_set (i := 4) scstep.nd rfl (Or.inl rfl) (pe_lst pa_nil))
    (pss_cons (ps_set (i := 5) scstep.nd rfl (Or.inl rfl) (C8.pe_mt c_take hr (by first | decide | omega) (pv 0) (pa_cons (pv 4) (pa_cons (pv 1) (pa_cons pe_str (pa_cons (pv 2) pa_nil))))))
    (pss_cons (ps_set (i := 6) scstep.nd rfl (Or.inl rfl) (C8.pe_mt c_take hr (by first | decide | omega) (pv 0) (pa_cons (pv 4) (pa_cons (pv 1) (pa_cons pe_str (pa_cons (pv 3) pa_nil))))))
    (pss_one (ps_ret (pe_tup (pa_cons (pv 4) (pa_cons (pe_tup (pa_cons (pv 5) (pa_cons (pv 6) pa_nil))) pa_nil)))))))), ?_⟩
  refine ⟨(by show 0 ≤ sizeLine; decide), ?_⟩
  (intro tl tl0; generalize hh_ : upd _ tl _ = H1; have htl := upd_is hh_; have s1 := same_is hh_ tl0; clear hh_)
  have tlm : tl ≠ m := (ne_of_none hm tl0).symm
  refine ⟨_, rfl, m, dd, _, rfl, s1 _ _ hm, lk_take, _, rfl, _, rfl, _, rfl, m, tl, a, b, c, true, dx, H, sc, es, ch, f, f, [], rfl, hM, tl0, Fr.same s1 _, s1 _ _ hb, htl, hch, hcl, (by show 0 + _ ≤ 100; omega), fes, fun H2 zs a1 a2 a3 a4 => ?_⟩
  have f02 : Fr [b, tl] H H2 := (Fr.same s1 _).trans a4
  refine ⟨_, rfl, m, dd, _, rfl, f02 _ _ hm (by simp; exact ⟨mb, tlm.symm⟩), lk_take, _, rfl, _, rfl, _, rfl, m, tl, a, b, c, false, dy, H, sc, es, ch, f, _, [] ++ zs, rfl, hM, tl0, f02, a3, a1, hch, hcl, ?_, fes, fun H3 zs2 b1 b2 b3 b4 => ?_⟩
  · have l1 := a2.len
    have := tk_len true ch dx f
    rw [List.length_map] at l1
    show zs.length + _ ≤ 100
    omega
  have f03 : Fr [b] H H3 := by
    intro q o e nq
    exact (f02.trans b4) q o e (by simp at nq ⊢; exact ⟨nq, ne_of_none e tl0⟩)
  have n03 : Nd H H3 := f03.nd (by simp; exact ⟨_, eb⟩)
  have a23 := ImAll.tp (tp_take b4 a1 a3) a2
  rw [List.nil_append] at b1
  refine ⟨_, rfl, _, rfl, _, rfl, (by show 2 ≤ sizeLine; decide), ?_⟩
  (intro t2 t20; generalize hh_ : upd _ t2 _ = H4; have ht2 := upd_is hh_; have s4 := same_is hh_ t20; clear hh_)
  refine ⟨(by show 2 ≤ sizeLine; decide), ?_⟩
  (intro r r0; generalize hh_ : upd _ r _ = H5; have hr5 := upd_is hh_; have s5 := same_is hh_ r0; clear hh_)
  have s35 := s4.trans s5
  refine k H5 r tl t2 (zs ++ zs2) hr5 (s35 _ _ b1) ?_ (s5 _ _ ht2) tl0 ?_ (f03.trans (Fr.same s35 _))
  · rw [show (stp ch dx dy f).1 = (tk true ch dx f).1 ++ (tk false ch dy (tk true ch dx f).2.2).1 from rfl, List.map_append]
    exact ImAll.tp (Tp.same s35) (ImAll.app a23 b2)
  · refine ⟨dd, s35 _ _ (n03.ins hm), ?_, ?_, ?_, nabc⟩
    · exact ha.keep (fun o e => s35 _ _ (f03 a o e (by simp; exact nabc.1))) (n03.tp.trans (Tp.same s35))
    · exact s35 _ _ b3
    · exact hc.keep (fun o e => s35 _ _ (f03 c o e (by simp; exact nabc.2.2.symm))) (n03.trans (Nd.same s35))
theorem ok_places {C : Addr} (D : Dm K mg C "places" "Shelves.places" splaces ["self"]) (T : Txt K mg) (Tc : TxShelves K mg C) : C8.Met P w K mg base 1 C "places" (spPlaces C) [] := by
  refine D.ok scplaces (fun vs H Q E h => ?_) (fun ff cdv A outer s H vs Q E hr h => ?_)
  · obtain ⟨_, _, _, _, _, _, _, rfl, _⟩ := h
    rfl
  obtain ⟨m, a, b, c, sc, es, f, rfl, hM, k⟩ := h
  obtain ⟨dd, hm, ha, hb, hc, nabc⟩ := id hM
  refine ⟨_, -- return dict(self._places)
    (pss_one (ps_ret (pe_callTy call_dictD (by rfl) T.m_dict (by decide +kernel) (pa_cons (pe_fld (pv 0) rfl) pa_nil)))), ?_⟩
  refine ⟨_, rfl, m, C, dd, _, _, rfl, hm, Tc.cl, Tc.n_places, lk_places, ?_⟩
  refine ⟨b, _, rfl, .inl hb, ?_⟩
  (intro r r0; generalize hh_ : upd _ r _ = H1; have hr1 := upd_is hh_; have s1 := same_is hh_ r0; clear hh_)
  exact k H1 r r0 hr1 s1
end
end SG
namespace SG
open PySem PySem.Spec PyProof.Rows L2
/-! ### the tape -/
def tapeD (c : Addr) (s l : Int) : List (Key × V) := [(Sum.inr "cells", .ref c), (Sum.inr "spot", .int s), (Sum.inr "left", .int l)]
theorem k12 : ¬ (Sum.inr ("cells" : Str) : Key) = Sum.inr ("spot" : Str) := by decide +kernel
theorem k13 : ¬ (Sum.inr ("cells" : Str) : Key) = Sum.inr ("left" : Str) := by decide +kernel
theorem k23 : ¬ (Sum.inr ("spot" : Str) : Key) = Sum.inr ("left" : Str) := by decide +kernel
theorem k32 : ¬ (Sum.inr ("left" : Str) : Key) = Sum.inr ("spot" : Str) := by decide +kernel
theorem n12 : ¬ ("cells" : Str) = ("spot" : Str) := by decide +kernel
theorem n13 : ¬ ("cells" : Str) = ("left" : Str) := by decide +kernel
theorem n23 : ¬ ("spot" : Str) = ("left" : Str) := by decide +kernel
theorem n32 : ¬ ("left" : Str) = ("spot" : Str) := by decide +kernel
theorem len3 {c : Addr} {s l : Int} : (tapeD c s l).length < sizeLine := by show 3 < sizeLine; decide
/-- a tape stands at t, of which at most n cells were taken -/
def TapeAt (H : Hp) (t c : Addr) (n : Nat) : Prop :=
  ∃ (cs : List Int) (s l : Int), H t = some (.dK (tapeD c s l)) ∧ H c = some (.lst (cs.map V.int)) ∧ 0 ≤ s ∧ s ≤ (n : Int) ∧ 0 ≤ l ∧ (1 ≤ cs.length ∧ cs.length ≤ 63)
section
variable {K : PySem.W.Frag} {H H' : Hp} {t c : Addr} {s l v : Int} {n m : Nat}
theorem tape_cells (h : H t = some (.dK (tapeD c s l))) : DGet H t (.str "cells") (some (.ref c)) := DGet.k (k := Sum.inr "cells") h
theorem tape_spot (h : H t = some (.dK (tapeD c s l))) : DGet H t (.str "spot") (some (.int s)) := by
  have e : valV (tapeD c s l) (Sum.inr ("spot" : Str) : Key) = some (.int s) := by
    unfold tapeD
    rw [valV_neg k12, valV_pos rfl]
  have q := DGet.k (k := Sum.inr "spot") h
  rw [e] at q
  exact q
theorem tape_left (h : H t = some (.dK (tapeD c s l))) : DGet H t (.str "left") (some (.int l)) := by
  have e : valV (tapeD c s l) (Sum.inr ("left" : Str) : Key) = some (.int l) := by
    unfold tapeD
    rw [valV_neg k13, valV_neg k23, valV_pos rfl]
  have q := DGet.k (k := Sum.inr "left") h
  rw [e] at q
  exact q
theorem key_ne {a b : Str} (h : ¬ a = b) : ¬ (Sum.inr a : Key) = Sum.inr b := fun e => h (Sum.inr.inj e)
theorem tape_put_left (h : H t = some (.dK (tapeD c s l))) : DPut H t (.str "left") (.int v) (upd H t (.dK (tapeD c s v))) := by
  have e : putK (tapeD c s l) (Sum.inr ("left" : Str) : Key) (.int v) = tapeD c s v := by
    simp [putK, tapeD, n13, n23]
  have q := DPut.k (k := Sum.inr "left") (v := .int v) h len3
  rw [e] at q
  exact q
theorem tape_put_spot (h : H t = some (.dK (tapeD c s l))) : DPut H t (.str "spot") (.int v) (upd H t (.dK (tapeD c v l))) := by
  have e : putK (tapeD c s l) (Sum.inr ("spot" : Str) : Key) (.int v) = tapeD c v l := by
    simp [putK, tapeD, n12, n32]
  have q := DPut.k (k := Sum.inr "spot") (v := .int v) h len3
  rw [e] at q
  exact q
/-- a list is no dict: it stays where only a dict changes -/
theorem sq_ne {xs : List V} {kvs : List (Key × V)} (hc : SqL K H c xs) (ht : H t = some (.dK kvs)) (f : Fr [t] H H') : SqL K H' c xs := by
  rcases hc with (h | ⟨o, h⟩) | h
  · exact .inl (.inl (f _ _ h (by simp only [List.mem_singleton]; exact ne_of h ht (by intro z; cases z))))
  · exact .inl (.inr ⟨o, f _ _ h (by simp only [List.mem_singleton]; exact ne_of h ht (by intro z; cases z))⟩)
  · exact .inr h
theorem TapeAt.mono (h : TapeAt H t c n) (q : n ≤ m) : TapeAt H t c m := by
  obtain ⟨cs, s, l, h1, h2, h3, h4, h5, h6⟩ := h
  exact ⟨cs, s, l, h1, h2, h3, by omega, h5, h6⟩
theorem TapeAt.same (h : TapeAt H t c n) (q : Same H H') : TapeAt H' t c n := by
  obtain ⟨cs, s, l, h1, h2, h3, h4, h5, h6⟩ := h
  exact ⟨cs, s, l, q _ _ h1, q _ _ h2, h3, h4, h5, h6⟩
theorem TapeAt.tp (h : TapeAt H t c n) (q : Fr [t] H H') : Tp H H' := fun b xs e => by
  obtain ⟨cs, s, l, h1, h2, h3, h4, h5, h6⟩ := h
  exact q _ _ e (by simp only [List.mem_singleton]; exact ne_of e h1 (by intro z; cases z))
theorem TapeAt.is (h : TapeAt H t c n) : ∃ kvs, H t = some (.dK kvs) := by
  obtain ⟨cs, s, l, h1, _⟩ := h
  exact ⟨_, h1⟩
theorem at_of' {α : Type} {xs : List α} {z : Int} {j : Nat} {v : α} (e : z = (j : Int)) (h : xs[j]? = some v) : atI xs z = some v := by
  rw [e]
  exact atI_nat h
theorem at_in {α : Type} {xs : List α} {i : Int} (h0 : 0 ≤ i) (h1 : i < xs.length) : ∃ x, x ∈ xs ∧ atI xs i = some x := by
  have hk : i.toNat < xs.length := by omega
  refine ⟨xs[i.toNat], List.getElem_mem hk, ?_⟩
  exact at_of' (j := i.toNat) (by omega) (List.getElem?_eq_getElem hk)
theorem at_ints {cs : List Int} {i : Int} (h0 : 0 ≤ i) (h1 : i < cs.length) : ∃ z, atI (cs.map V.int) i = some (.int z) := by
  obtain ⟨x, hx, e⟩ := at_in (xs := cs.map V.int) h0 (by rw [List.length_map]; exact h1)
  obtain ⟨z, _, rfl⟩ := List.mem_map.mp hx
  exact ⟨z, e⟩
end
/-! ### a draw -/
def spDraw : Sp := fun vs H Q _ => ∃ (t c : Addr) (m : Int) (n : Nat), vs = [.ref t, .int m] ∧ TapeAt H t c n ∧ (1 ≤ m ∧ m ≤ 1000000) ∧ n ≤ 1000000000 ∧
  ∀ (r : Int) (H' : Hp), (0 ≤ r ∧ r < m) → TapeAt H' t c (n + 1) → Fr [t] H H' → Q (.int r) H'
theorem pw18 : CPowG 10 18 := ⟨by decide, by decide +kernel⟩
theorem pw6e : (10 : Int) ^ (6 : Int).toNat = 1000000 := by decide
theorem pw6 : CPowG 10 6 := ⟨by decide, by decide +kernel⟩
theorem pw50 : CPowG 10 50 := ⟨by decide, by decide +kernel⟩
theorem pw60 : CPowG (10 ^ (50 : Int).toNat) 60 := ⟨by decide, by decide +kernel⟩
theorem pw10 : CPowG ((10 ^ (50 : Int).toNat) ^ (60 : Int).toNat) 10 := ⟨by decide, by decide +kernel⟩
theorem big_pos : (0 : Int) < ((10 ^ (50 : Int).toNat) ^ (60 : Int).toNat) ^ (10 : Int).toNat := Int.pow_pos (Int.pow_pos (Int.pow_pos (by decide)))
theorem pw17 {z : Int} (h0 : 0 ≤ z) (h1 : z ≤ 100000000000000) : CPowG z 17 := ⟨by decide, by
  have h := intBits_le_64 (k := z) (by omega) (by omega)
  have : ((Builtin.Int.intBits z : Nat) : Int) ≤ 64 := by omega
  omega⟩
section
variable {P : Program} {w : World} {K : PySem.W.Frag} {mg : Str → Option Value} {base : Heap}
theorem ok_draw (D : Df K mg "_law_draw" s_law_draw ["_law_tape", "_law_many"]) (T : Txt K mg) : Cl P w K mg base 1 "_law_draw" spDraw := by
  refine D.ok sc_law_draw (fun vs H Q E h => ?_) (fun f cdv A outer s H vs Q E hr h => ?_)
  · obtain ⟨t, c, m, n, rfl, _⟩ := h
    rfl
  obtain ⟨t, c, m, n, rfl, ⟨cs, s, l, ht, hcl, s0, sn, l0, h1, h63⟩, ⟨m1, m6⟩, hn, k⟩ := h
  have hu := hu_of hr
  have hc : SqL K H c (cs.map V.int) := SqL.of hcl
  have ctn : c ∉ [t] := by simp only [List.mem_singleton]; exact ne_of hcl ht (by intro z; cases z)
  have hl2 : (cs.map V.int).length = cs.length := List.length_map _
  refine ⟨_, -- if _law_tape['left'] < _law_many:
    (C8.pss_cut (ps_if (pt_cmpR op_lt (pe_dget hu (pv 0) pe_str (fun _ _ => rfl)) (pv 1) (nomark _))
      (pss_cons (ps_par (i := 2) (j := 3) rfl sc_law_draw.nd rfl rfl (by decide) rfl rfl (pa_cons (pe_dget hu (pv 0) pe_str (fun _ _ => rfl)) (pa_cons (pe_callB call_len_seq (by rfl) T.m_len PySem.boot_len (pa_cons (pe_dget hu (pv 0) pe_str (fun _ _ => rfl)) pa_nil)) pa_nil)) rfl)
      (pss_cons (ps_asg (pe_tup (pa_cons (pe_ix ix_list (pe_dget hu (pv 0) pe_str (fun _ _ => rfl)) (pe_op op_mod (pv 2) (pv 3)) (fun _ _ => rfl)) (pa_cons (pe_op op_add (pv 2) pe_int) pa_nil))) (pg_tup rfl (pgs_cons (pg_name (i := 4) sc_law_draw.nd rfl (Or.inl rfl)) (pgs_cons (pg_sub (pv 0) pe_str (set_dict hu)) pgs_nil))))
      (pss_cons (ps_dput hu (pv 0) pe_str (pe_op op_mod (pe_op op_powG (pe_op op_add (pe_op op_add (pe_op op_mod (pv 4) pe_int) (pe_op op_mul pe_int (pv 2))) pe_int) pe_int) (pe_op op_add (pe_op op_powG pe_int pe_int) pe_int)) rfl)
      (pss_one (ps_if (PW.pt (pw_and (pt_cmpR op_ge (pv 4) (pe_op op_powG pe_int pe_int) (nomark _)) (pw_and1 (pt_cmpR op_lt (pv 2) (pv 3) (nomark _)))))
        (pss_one (ps_dput hu (pv 0) pe_str (pe_op op_mod (pe_op op_sub (pv 4) (pe_op op_powG pe_int pe_int)) (pe_op op_powG (pe_op op_powG (pe_op op_powG pe_int pe_int) pe_int) pe_int)) rfl))
        pss_nil)))))
      pss_nil)
    (pss_cons (ps_asg (pe_tup (pa_cons (pe_op op_mod (pe_dget hu (pv 0) pe_str (fun _ _ => rfl)) (pv 1)) (pa_cons (pe_op op_fdiv (pe_dget hu (pv 0) pe_str (fun _ _ => rfl)) (pv 1)) pa_nil))) (pg_tup rfl (pgs_cons (pg_name (i := 5) sc_law_draw.nd rfl (Or.inl rfl)) (pgs_cons (pg_sub (pv 0) pe_str (set_dict hu)) pgs_nil))))
    (pss_one (ps_ret (pv 5))))), ?_⟩
  refine ⟨fun σ Hx => ∃ (k2 k3 k4 : Option V) (s' l' : Int), σ = [some (.ref t), some (.int m), k2, k3, k4, none] ∧ Hx t = some (.dK (tapeD c s' l')) ∧ 0 ≤ s' ∧ s' ≤ (n : Int) + 1 ∧ 0 ≤ l' ∧ Fr [t] H Hx, ?_, ?_⟩
  · refine ⟨_, rfl, t, _, rfl, tape_left ht, _, rfl, _, _, rfl, rfl, _, rfl, ite2 (fun p => ?_) fun p => ?_⟩
    · have i0 : 0 ≤ s % (((cs.map V.int).length : Nat) : Int) := Int.emod_nonneg _ (by omega)
      have i1 : s % (((cs.map V.int).length : Nat) : Int) < (cs.length : Int) := by
        rw [hl2]
        exact Int.emod_lt_of_pos _ (by omega)
      obtain ⟨cell, hcell⟩ := at_ints i0 i1
      refine ⟨_, rfl, t, _, rfl, tape_spot ht, _, rfl, t, _, rfl, tape_cells ht, c, _, rfl, .inl hc, _, _, rfl, ?_⟩
      refine ⟨_, rfl, t, _, rfl, tape_cells ht, _, rfl, _, rfl, _, _, rfl, rfl, (by rw [hl2]; omega), c, _, _, _, rfl, rfl, hc, hcell, _, rfl, _, _, rfl, rfl, (by show 2 ≤ sizeLine; decide), ?_⟩
      (intro p p0; generalize hh_ : upd _ p _ = H1; have hp := upd_is hh_; have s1 := same_is hh_ p0; clear hh_)
      have ht1 := s1 _ _ ht
      refine ⟨p, _, rfl, SqT.of hp, rfl, _, _, rfl, ?_⟩
      refine ⟨_, _, rfl, _, rfl, t, _, rfl, tape_put_spot ht1, rfl, ?_⟩
      have f2 : Fr [t] H1 (upd H1 t (.dK (tapeD c (s + 1) l))) := Fr.put (by simp)
      have ht2 : (upd H1 t (.dK (tapeD c (s + 1) l))) t = some (.dK (tapeD c (s + 1) l)) := upd_same
      have f02 := (Fr.same s1 [t]).trans f2
      dsimp only
      generalize upd H1 t (.dK (tapeD c (s + 1) l)) = H2 at *
      have g0 : 0 ≤ cell % 2147483647 := Int.emod_nonneg _ (by decide)
      have g1 : cell % 2147483647 < 2147483647 := Int.emod_lt_of_pos _ (by decide)
      refine ⟨_, rfl, _, _, rfl, rfl, (by show (0 : Int) < 2147483647; decide), _, rfl, _, _, rfl, rfl, .inl ⟨by decide, by decide⟩, _, _, rfl, rfl, _, _, rfl, rfl, _, _, rfl, rfl, pw17 (by omega) (by omega), ?_⟩
      refine ⟨_, _, rfl, rfl, pw50, _, _, rfl, rfl, _, _, rfl, rfl, (by show (0 : Int) < _ + 151; have : (0 : Int) ≤ 10 ^ (50 : Int).toNat := Int.pow_nonneg (by decide); omega), ?_⟩
      dsimp only
      have q0 : (0 : Int) < 10 ^ (50 : Int).toNat + 151 := by have : (0 : Int) ≤ 10 ^ (50 : Int).toNat := Int.pow_nonneg (by decide); omega
      have e0 := Int.emod_nonneg ((cell % 2147483647 + 69621 * s + 48271) ^ (17 : Int).toNat) (Int.ne_of_gt q0)
      generalize (cell % 2147483647 + 69621 * s + 48271) ^ (17 : Int).toNat % (10 ^ (50 : Int).toNat + 151) = l2 at *
      refine ⟨_, rfl, t, _, rfl, tape_put_left ht2, ?_⟩
      have f3 : Fr [t] H2 (upd H2 t (.dK (tapeD c (s + 1) l2))) := Fr.put (by simp)
      have ht3 : (upd H2 t (.dK (tapeD c (s + 1) l2))) t = some (.dK (tapeD c (s + 1) l2)) := upd_same
      have f03 := f02.trans f3
      generalize upd H2 t (.dK (tapeD c (s + 1) l2)) = H3 at *
      have fin0 : ∃ (k2 k3 k4 : Option V) (s' l' : Int), ((((List.set (L2.start N_law_draw [V.ref t, V.int m]) 2 (some (V.int s))).set 3 (some (V.int ((List.map V.int cs).length : Nat)))).set 4 (some (V.int cell))) : L2.St) = [some (.ref t), some (.int m), k2, k3, k4, none] ∧ H3 t = some (.dK (tapeD c s' l')) ∧ 0 ≤ s' ∧ s' ≤ (n : Int) + 1 ∧ 0 ≤ l' ∧ Fr [t] H H3 := ⟨_, _, _, s + 1, l2, rfl, ht3, by omega, by omega, e0, f03⟩
      refine ⟨_, rfl, _, _, rfl, rfl, pw18, _, _, rfl, rfl, _, rfl, ite2 (fun p3 => ?_) fun _ => fin0⟩
      refine ⟨_, rfl, _, rfl, _, _, rfl, rfl, _, rfl, ite2 (fun p4 => ?_) fun _ => fin0⟩
      refine ⟨_, rfl, _, _, rfl, rfl, pw18, _, _, rfl, rfl, _, _, rfl, rfl, pw50, _, _, rfl, rfl, pw60, _, _, rfl, rfl, pw10, _, _, rfl, rfl, big_pos, ?_⟩
      have g0 : 0 ≤ (cell - 10 ^ (18 : Int).toNat) % ((10 ^ (50 : Int).toNat) ^ (60 : Int).toNat) ^ (10 : Int).toNat := Int.emod_nonneg _ (Int.ne_of_gt big_pos)
      dsimp only
      generalize (cell - 10 ^ (18 : Int).toNat) % ((10 ^ (50 : Int).toNat) ^ (60 : Int).toNat) ^ (10 : Int).toNat = gr at *
      refine ⟨_, rfl, t, _, rfl, tape_put_left ht3, ?_⟩
      exact ⟨_, _, _, s + 1, gr, rfl, upd_same, by omega, by omega, g0, f03.trans (Fr.put (by simp))⟩
    · exact ⟨none, none, none, s, l, rfl, ht, s0, by omega, l0, Fr.refl _ _⟩
  · rintro σ Hx ⟨k2, k3, k4, s', l', rfl, x1, x2, x3, x4, x5⟩
    refine ⟨_, rfl, t, _, rfl, tape_left x1, _, rfl, _, _, rfl, rfl, (by omega), ?_⟩
    refine ⟨_, rfl, t, _, rfl, tape_left x1, _, rfl, _, _, rfl, rfl, ⟨by omega, by omega⟩, (by show 2 ≤ sizeLine; decide), ?_⟩
    (intro p p0; generalize hh_ : upd _ p _ = H1; have hp := upd_is hh_; have s1 := same_is hh_ p0; clear hh_)
    have xt1 := s1 _ _ x1
    refine ⟨p, _, rfl, SqT.of hp, rfl, _, _, rfl, ?_⟩
    refine ⟨_, _, rfl, _, rfl, t, _, rfl, tape_put_left xt1, rfl, ?_⟩
    have f2 : Fr [t] H1 (upd H1 t (.dK (tapeD c s' (l' / m)))) := Fr.put (by simp)
    have f02 := x5.trans ((Fr.same s1 [t]).trans f2)
    refine ⟨_, rfl, ?_⟩
    exact k _ _ ⟨Int.emod_nonneg _ (by omega), Int.emod_lt_of_pos _ (by omega)⟩ ⟨cs, s', l' / m, upd_same, f02 _ _ hcl ctn, x2, by omega, Int.ediv_nonneg x4 (by omega), h1, h63⟩ f02
end
section
variable {K : PySem.W.Frag} {H H' H1 : Hp} {t c p : Addr} {n m : Nat}
theorem Fr.one {S : List Addr} {o : HO} (f : Fr S H H') (h : H p = some o) (hn : p ∉ S) : H' p = some o := f p o h hn
theorem TapeAt.ne_new (h : TapeAt H t c n) (hp : H p = none) : p ≠ t := by
  obtain ⟨kvs, e⟩ := h.is
  exact fun z => by rw [z, e] at hp; cases hp
theorem TapeAt.ne_lst {xs : List V} (h : TapeAt H t c n) (hp : H p = some (.lst xs)) : p ≠ t := by
  obtain ⟨kvs, e⟩ := h.is
  exact ne_of hp e (by intro z; cases z)
theorem TapeAt.ne_tup {xs : List V} (h : TapeAt H t c n) (hp : H p = some (.tup xs)) : p ≠ t := by
  obtain ⟨kvs, e⟩ := h.is
  exact ne_of hp e (by intro z; cases z)
theorem not_in_one {a b : Addr} (h : a ≠ b) : a ∉ [b] := by simpa using h
theorem sl1000 {n : Nat} (h : n ≤ 1000) : n ≤ sizeLine := Nat.le_of_lt (small1000 h)
theorem TapeAt.ne_newc (h : TapeAt H t c n) (hp : H p = none) : p ≠ c := by
  obtain ⟨cs, s, l, h1, h2, h3, h4, h5, h6⟩ := h
  exact fun z => by rw [z, h2] at hp; cases hp
theorem TapeAt.ne_tupc {xs : List V} (h : TapeAt H t c n) (hp : H p = some (.tup xs)) : p ≠ c := by
  obtain ⟨cs, s, l, h1, h2, h3, h4, h5, h6⟩ := h
  exact ne_of hp h2 (by intro z; cases z)
theorem TapeAt.ne_dctc {xs : List (Key × V)} (h : TapeAt H t c n) (hp : H p = some (.dK xs)) : p ≠ c := by
  obtain ⟨cs, s, l, h1, h2, h3, h4, h5, h6⟩ := h
  exact ne_of hp h2 (by intro z; cases z)
theorem TapeAt.put {o : HO} (h : TapeAt H t c n) (h1 : p ≠ t) (h2 : p ≠ c) : TapeAt (upd H p o) t c n := by
  obtain ⟨cs, s, l, e1, e2, r⟩ := h
  exact ⟨cs, s, l, by rw [upd_ne h1.symm]; exact e1, by rw [upd_ne h2.symm]; exact e2, r⟩
end
/-! ### one of several -/
/-- a list, or a text, that is picked from: its items -/
def PkAt (K : PySem.W.Frag) (H : Hp) (t : Addr) (a : V) (xs : List V) : Prop := (∃ p, a = .ref p ∧ p ≠ t ∧ SqL K H p xs) ∨ (∃ z : Str, a = .str z ∧ xs = z.cps.toList.map fun c => V.str ⟨#[c]⟩)
def spPick (K : PySem.W.Frag) : Sp := fun vs H Q _ => ∃ (t c : Addr) (a : V) (n : Nat) (xs : List V), vs = [.ref t, a] ∧ TapeAt H t c n ∧ PkAt K H t a xs ∧ 1 ≤ xs.length ∧ xs.length ≤ 1000 ∧ n ≤ 1000000000 ∧
  ∀ (v : V) (H' : Hp), v ∈ xs → TapeAt H' t c (n + 1) → Fr [t] H H' → Q v H'
theorem sq_fr {K : PySem.W.Frag} {H H' : Hp} {S : List Addr} {p : Addr} {xs : List V} (h : SqL K H p xs) (f : Fr S H H') (n : p ∉ S) : SqL K H' p xs := by
  rcases h with (h | ⟨o, h⟩) | h
  · exact .inl (.inl (f _ _ h n))
  · exact .inl (.inr ⟨o, f _ _ h n⟩)
  · exact .inr h
section
variable {P : Program} {w : World} {K : PySem.W.Frag} {mg : Str → Option Value} {base : Heap}
theorem ok_pick (D : Df K mg "_law_pick" s_law_pick ["_law_tape", "_law_some"]) (T : Txt K mg) (c_law_draw : Cl P w K mg base 1 "_law_draw" spDraw) : Cl P w K mg base 2 "_law_pick" (spPick K) := by
  refine D.ok sc_law_pick (fun vs H Q E h => ?_) (fun f cdv A outer s H vs Q E hr h => ?_)
  · obtain ⟨_, _, _, _, _, rfl, _⟩ := h
    rfl
  obtain ⟨t, c, a, n, xs, rfl, hT, ha, x1, x2, hn, k⟩ := h
  refine ⟨_, -- return _law_some[_law_draw(_law_tape, len(_law_some))]
    (pss_one (ps_ret (pe_ix (IxR.or ix_list ix_str) (pv 1) (pe_cl c_law_draw (hr.mono (by first | decide | omega)) rfl (pa_cons (pv 0) (pa_cons (pe_callB (CallR.or call_len_seq call_len_str) (by rfl) T.m_len PySem.boot_len (pa_cons (pv 1) pa_nil)) pa_nil))) (fun _ _ => rfl)))), ?_⟩
  rcases ha with ⟨p, rfl, pt, hx⟩ | ⟨z, rfl, rfl⟩
  · refine ⟨_, rfl, _, rfl, _, rfl, .inl ⟨p, xs, rfl, .inl hx, ?_⟩⟩
    refine ⟨t, c, _, n, rfl, hT, ⟨by omega, by omega⟩, hn, fun r H' hr' T' f' => ?_⟩
    obtain ⟨v, hv, e⟩ := at_in (xs := xs) hr'.1 hr'.2
    exact .inl ⟨p, _, _, v, rfl, rfl, sq_fr hx f' (not_in_one pt), e, k v H' hv T' f'⟩
  · rw [List.length_map] at x1 x2
    have lz : z.length = z.cps.toList.length := by show z.cps.size = _; rw [Array.length_toList]
    refine ⟨_, rfl, _, rfl, _, rfl, .inr ⟨z, rfl, (by rw [lz]; exact Nat.le_trans x2 (by decide)), ?_⟩⟩
    refine ⟨t, c, _, n, rfl, hT, ⟨by omega, by omega⟩, hn, fun r H' hr' T' f' => ?_⟩
    obtain ⟨cc, hcc, e⟩ := at_in (xs := z.cps.toList) hr'.1 (by rw [← lz]; exact hr'.2)
    exact .inr ⟨z, r, cc, rfl, rfl, (by rw [lz]; exact Nat.le_trans x2 (by decide)), e, k _ H' (List.mem_map.mpr ⟨cc, hcc, rfl⟩) T' f'⟩
end
end SG
namespace SG
open PySem PySem.Spec PyProof.Rows L2
/-- a list made of a range, number by number -/
theorem lc_mapR {lo : Int} {n : Nat} {g : TG} {te : TE} {vs : List Nat} {σ : L2.St} {H : Hp} {D : Addr} {Qd : Hp → Prop} (F : Nat → V) (D0 : H D = none) (few : n < 100000)
    (hs : ∀ i Hx (N : V → Hp → Prop) (O : Hp → Prop), i < n → Same H Hx → (∀ H4, Same Hx H4 → N (F i) H4) → g (.int (lo + i)) (wipe σ vs) Hx fun σ2 H2 => wipe σ2 vs = wipe σ vs ∧ tYes σ2 H2 fun b H3 => if b = true then te σ2 H3 N else O H3)
    (hd : ∀ Hx, Same H Hx → Hx D = some (.lst ((List.range n).map F)) → Qd Hx) :
    ∃ W : Nat → Nat → Hp → Prop, (∃ m, W 0 m (upd H D (.lst []))) ∧ ∀ i m H, W i m H →
      ((Itr lo n).stop i H ∧ Qd H) ∨ ((Itr lo n).go i H ∧ ∃ Nx : Hp → Prop, (∀ H', Nx H' → ∃ m', m' < m ∧ W (i + 1) m' H') ∧ ∀ x H', (Itr lo n).yld i H x H' → g x (wipe σ vs) H' fun σ2 H2 => wipe σ2 vs = wipe σ vs ∧ tYes σ2 H2 fun b H3 =>
        if b = true then te σ2 H3 fun y H4 => ∃ acc, H4 D = some (.lst acc) ∧ acc.length < sizeLine ∧ Nx (upd H4 D (.lst (acc ++ [y]))) else Nx H3) := by
  refine lc_range (n := n) (fun i Hx => Hx D = some (.lst ((List.range i).map F)) ∧ Same H Hx) ⟨upd_same, same_new D0⟩ ?_ ?_
  · rintro i Hx hi ⟨hD, sx⟩
    have few' : 100000 ≤ sizeLine := by decide
    have step : ∀ H4, Same Hx H4 → ∃ acc, H4 D = some (.lst acc) ∧ acc.length < sizeLine ∧ ((upd H4 D (.lst (acc ++ [F i]))) D = some (.lst ((List.range (i + 1)).map F)) ∧ Same H (upd H4 D (.lst (acc ++ [F i])))) := by
      intro H4 s4
      refine ⟨_, s4 _ _ hD, ?_, ?_, ?_⟩
      · rw [List.length_map, List.length_range]; omega
      · rw [upd_same, List.range_succ, List.map_append]; rfl
      · intro p o e
        rw [upd_ne (ne_of_none e D0)]
        exact s4 _ _ (sx _ _ e)
    exact hs i Hx _ _ hi sx step
  · rintro Hx ⟨hD, sx⟩
    exact hd Hx sx hD
/-! ### the tape, begun -/
theorem tape_is {c : Addr} : mergeK [] [((Sum.inr ("cells" : Str) : Key), V.ref c), (Sum.inr ("spot" : Str), .int 0), (Sum.inr ("left" : Str), .int 0)] = tapeD c 0 0 := by
  simp [mergeK, putK, tapeD, n12, n13, n23]
def spBegun (K : PySem.W.Frag) : Sp := fun vs H Q _ => ∃ (a : Addr) (ns : List Int), vs = [.ref a] ∧ SqL K H a (ns.map V.int) ∧ ns.length ≤ 63 ∧
  ∀ (t c : Addr) (H' : Hp), TapeAt H' t c 0 → Same H H' → H t = none → Q (.ref t) H'
section
variable {P : Program} {w : World} {K : PySem.W.Frag} {mg : Str → Option Value} {base : Heap}
theorem ok_begun (D : Df K mg "_law_begun" s_law_begun ["_law_script"]) (T : Txt K mg) : Cl P w K mg base 1 "_law_begun" (spBegun K) := by
  refine D.ok sc_law_begun (fun vs H Q E h => ?_) (fun f cdv A outer s H vs Q E hr h => ?_)
  · obtain ⟨a, ns, rfl, _⟩ := h
    rfl
  obtain ⟨a, ns, rfl, hS, h63, k⟩ := h
  refine ⟨_, -- return {'cells': _law_script[:63] or [0], 'spot': 0, 'left': 0}
    (pss_one (ps_ret (pe_disp (pps_cons pe_str (pe_orT (pe_slice sl_list (pv 0) po_none (po_some pe_int)) (pe_one (pe_lst (pa_cons pe_int pa_nil)))) (pps_cons pe_str pe_int (pps_cons pe_str pe_int pps_nil))) rfl rfl (by decide) (by decide)))), ?_⟩
  (intro t t0; generalize hh_ : upd _ t _ = H1; have ht := upd_is hh_; have s1 := same_is hh_ t0; clear hh_)
  refine ⟨_, rfl, _, rfl, a, _, rfl, s1.seq hS, ?_⟩
  (intro c c0; generalize hh_ : upd _ c _ = H2; have hc := upd_is hh_; have s2 := same_is hh_ c0; clear hh_)
  have ec : ∃ cs : List Int, cutV (ns.map V.int) none (some 63) = cs.map V.int ∧ cs.length ≤ 63 := by
    refine ⟨(ns.drop (HT.sIx ns.length 0 none)).take (HT.sIx ns.length ns.length (some 63) - HT.sIx ns.length 0 none), ?_, ?_⟩
    · unfold cutV
      rw [List.map_take, List.map_drop, List.length_map]
    · rw [List.length_take, List.length_drop]
      omega
  obtain ⟨cs, ec, lc⟩ := ec
  rw [ec] at hc
  have fin : ∀ (c : Addr) (cs : List Int) (H2 : Hp), Same H1 H2 → H2 c = some (.lst (cs.map V.int)) → 1 ≤ cs.length → cs.length ≤ 63 → Q (.ref t) (upd H2 t (.dK (tapeD c 0 0))) := fun c cs H2 s2 hc l1 lc => by
    have tc : t ≠ c := ne_of (s2 _ _ ht) hc (by intro z; cases z)
    have tH := t0
    refine k t c _ ⟨cs, 0, 0, upd_same, by rw [upd_ne tc.symm]; exact hc, by decide, by decide, by decide, l1, lc⟩ (fun p o e => ?_) tH
    rw [upd_ne (ne_of_none e tH)]
    exact s2 _ _ (s1 _ _ e)
  refine ⟨_, Or.inl ⟨_, SqL.of hc, rfl⟩, ?_⟩
  cases cs with
  | nil =>
    refine iteF ?_
    refine ⟨(by show 1 ≤ sizeLine; decide), ?_⟩
    (intro c2 c20; generalize hh_ : upd _ c2 _ = H3; have hc2 := upd_is hh_; have s3 := same_is hh_ c20; clear hh_)
    refine ⟨(s2.trans s3) _ _ ht, [((Sum.inr ("cells" : Str) : Key), V.ref c2), (Sum.inr ("spot" : Str), .int 0), (Sum.inr ("left" : Str), .int 0)], rfl, (by show 3 ≤ 15; decide), ?_⟩
    rw [tape_is]
    exact fin c2 [0] H3 (s2.trans s3) hc2 (by decide) (by decide)
  | cons z r =>
    refine iteT ?_
    refine ⟨s2 _ _ ht, [((Sum.inr ("cells" : Str) : Key), V.ref c), (Sum.inr ("spot" : Str), .int 0), (Sum.inr ("left" : Str), .int 0)], rfl, (by show 3 ≤ 15; decide), ?_⟩
    rw [tape_is]
    exact fin c (z :: r) H2 s2 hc (by simp) lc
end
/-! ### words -/
abbrev alphabet : Str := "abcdefghijklmnopqrstuvwxyz"
theorem alpha_len : alphabet.cps.toList.length = 26 := by decide +kernel
theorem alpha_small : alphabet.length ≤ sizeLine := by decide +kernel
theorem alpha_lt : ∀ c ∈ alphabet.cps.toList, c < 1000 := by decide +kernel
theorem alpha_at : ∀ i < 26, alphabet.cps.toList[i]? = some (97 + i) := by decide +kernel
/-- the letter of the word k -/
def letW (f b : Int) (k : Nat) : Nat := 97 + ((f + b * (k : Int)) % 26).toNat
theorem letW_inj {f b : Int} (hb : b = 3 ∨ b = 5 ∨ b = 7 ∨ b = 9 ∨ b = 11) {i j : Nat} (hi : i < 26) (hj : j < 26) (h : letW f b i = letW f b j) : i = j := by
  unfold letW at h
  rcases hb with rfl | rfl | rfl | rfl | rfl <;> omega
theorem letW_at (f b : Int) (k : Nat) : atI alphabet.cps.toList ((f + b * (k : Int)) % 26) = some (letW f b k) := by
  have h : ((f + b * (k : Int)) % 26).toNat < 26 := by omega
  exact at_of' (by omega) (alpha_at _ h)
def wordW (f b : Int) (tail : Str) (k : Nat) : Str := timesS ⟨#[letW f b k]⟩ (1 + k / 26) ++ cutS tail none (some (if k % 2 = 0 then 6 else 1))
theorem wordW_head (f b : Int) (tail : Str) {k : Nat} (h : k < 26) : (wordW f b tail k).cps.toList.head? = some (letW f b k) := by
  unfold wordW
  rw [Nat.div_eq_of_lt h, timesS_one]
  show ((#[letW f b k] : Array Nat) ++ (cutS tail none (some (if k % 2 = 0 then 6 else 1))).cps).toList.head? = _
  rw [Array.toList_append]
  rfl
theorem nodup_map_on {α β : Type} {f : α → β} : ∀ {l : List α}, l.Nodup → (∀ x ∈ l, ∀ y ∈ l, f x = f y → x = y) → (l.map f).Nodup
  | [], _, _ => List.nodup_nil
  | a :: l, h, inj => by
    rw [List.nodup_cons] at h
    rw [List.map_cons, List.nodup_cons]
    refine ⟨fun m => ?_, nodup_map_on h.2 fun x hx y hy e => inj x (List.mem_cons_of_mem _ hx) y (List.mem_cons_of_mem _ hy) e⟩
    obtain ⟨b, hb, e⟩ := List.mem_map.mp m
    exact h.1 (by rw [← inj b (List.mem_cons_of_mem _ hb) a List.mem_cons_self e]; exact hb)
theorem words_nodup {f b : Int} (hb : b = 3 ∨ b = 5 ∨ b = 7 ∨ b = 9 ∨ b = 11) (tail : Str) : ((List.range 26).map (wordW f b tail)).Nodup := by
  refine nodup_map_on List.nodup_range fun i hi j hj e => ?_
  have hi' := List.mem_range.mp hi
  have hj' := List.mem_range.mp hj
  have h1 := wordW_head f b tail hi'
  rw [e, wordW_head f b tail hj'] at h1
  exact (letW_inj hb hj' hi' (Option.some.inj h1)).symm
theorem len_add (a b : Str) : (a ++ b).length = a.length + b.length := Str.length_append ..
theorem len_cut (z : Str) (n : Nat) : (cutS z none (some (n : Int))).length ≤ n := by
  show (Array.size _) ≤ n
  unfold cutS
  simp only [List.size_toArray, List.length_take]
  have e : HT.sIx z.length z.length (some (n : Int)) = min n z.length := HT.sIx_nat _ _ n
  rw [e]
  omega
theorem sum_ones : ∀ {ys : List Str}, (∀ z ∈ ys, z.length = 1) → (ys.map (·.length)).sum = ys.length
  | [], _ => rfl
  | y :: r, h => by
    rw [List.map_cons, List.sum_cons, h y List.mem_cons_self, sum_ones fun z hz => h z (List.mem_cons_of_mem _ hz), List.length_cons]
    omega
theorem join_small : ∀ {ys : List Str}, (∀ z ∈ ys, ∀ c ∈ z.cps.toList, c < 1000) → ∀ c ∈ (Txt.join "" ys).cps.toList, c < 1000 := by
  intro ys h
  show ∀ c ∈ (Builtin.Str.glued "" ys).cps.toList, c < 1000
  rw [StrLaws.glued_eq_join]
  induction ys with
  | nil => intro c hc; cases hc
  | cons y r ih =>
    have ihr := ih fun z hz => h z (List.mem_cons_of_mem _ hz)
    cases r with
    | nil => exact h y List.mem_cons_self
    | cons y2 r =>
      intro c hc
      have e : (Str.join "" (y :: y2 :: r)).cps.toList = y.cps.toList ++ ("" : Str).cps.toList ++ (Str.join "" (y2 :: r)).cps.toList := by
        show ((y.cps ++ ("" : Str).cps) ++ (Str.join "" (y2 :: r)).cps).toList = _
        rw [Array.toList_append, Array.toList_append]
      rw [e] at hc
      rcases List.mem_append.mp hc with hc | hc
      · rcases List.mem_append.mp hc with hc | hc
        · exact h y List.mem_cons_self c hc
        · have : ("" : Str).cps.toList = [] := rfl
          rw [this] at hc
          cases hc
      · exact ihr c hc
theorem word_ok {f b : Int} {tail : Str} (hl : tail.length ≤ 7) (ht : ∀ c ∈ tail.cps.toList, c < 1000) {k : Nat} (hk : k < 26) : OkN (wordW f b tail k) := by
  unfold wordW
  rw [Nat.div_eq_of_lt hk, timesS_one]
  have lc : (cutS tail none (some (if k % 2 = 0 then 6 else 1))).length ≤ 6 := by
    by_cases e : k % 2 = 0
    · rw [if_pos e]; exact len_cut tail 6
    · rw [if_neg e]; exact Nat.le_trans (len_cut tail 1) (by decide)
  refine ⟨?_, fun c hc => ?_⟩
  · rw [len_add]
    have : (⟨#[letW f b k]⟩ : Str).length = 1 := rfl
    omega
  · have e : ((⟨#[letW f b k]⟩ : Str) ++ cutS tail none (some (if k % 2 = 0 then 6 else 1))).cps.toList = [letW f b k] ++ (cutS tail none (some (if k % 2 = 0 then 6 else 1))).cps.toList := by
      show ((#[letW f b k] : Array Nat) ++ (cutS tail none (some (if k % 2 = 0 then 6 else 1))).cps).toList = _
      rw [Array.toList_append]
    rw [e] at hc
    rcases List.mem_append.mp hc with hc | hc
    · rw [List.mem_singleton.mp hc]
      unfold letW
      omega
    · refine ht c ?_
      unfold cutS at hc
      simp only [List.toList_toArray] at hc
      exact List.mem_of_mem_drop (List.mem_of_mem_take hc)
def spSpelled : Sp := fun vs H Q _ => ∃ (t c : Addr) (n : Nat), vs = [.ref t] ∧ TapeAt H t c n ∧ n ≤ 900000000 ∧
  ∀ (l : Addr) (ws : List Str) (H' : Hp), H' l = some (.lst (ws.map V.str)) → ws.length = 52 → ((ws.take 26).Nodup ∧ ∀ x ∈ ws.take 26, OkN x) → TapeAt H' t c (n + 10) → Fr [t] H H' → H l = none → Q (.ref l) H'
section
variable {P : Program} {w : World} {K : PySem.W.Frag} {mg : Str → Option Value} {base : Heap}
theorem ok_spelled (D : Df K mg "_law_spelled" s_law_spelled ["_law_tape"]) (T : Txt K mg) (c_law_draw : Cl P w K mg base 1 "_law_draw" spDraw) (c_law_pick : Cl P w K mg base 2 "_law_pick" (spPick K)) : Cl P w K mg base 3 "_law_spelled" spSpelled := by
  refine D.ok sc_law_spelled (fun vs H Q E h => ?_) (fun f cdv A outer s H vs Q E hr h => ?_)
  · obtain ⟨_, _, _, rfl, _⟩ := h
    rfl
  obtain ⟨t, c, n, rfl, hT, hn, k⟩ := h
  refine ⟨_, -- _law_letters, _law_first, _law_by = ('abcdefghijklmnopqrstuvwxyz', _law_draw(_law_tape, 26), 3 + 2 * _law_draw(_law_tape, 5))
    (pss_cons (ps_asg (pe_tup (pa_cons pe_str (pa_cons (pe_cl c_law_draw (hr.mono (by first | decide | omega)) rfl (pa_cons (pv 0) (pa_cons pe_int pa_nil))) (pa_cons (pe_op op_add pe_int (pe_op op_mul pe_int (pe_cl c_law_draw (hr.mono (by first | decide | omega)) rfl (pa_cons (pv 0) (pa_cons pe_int pa_nil))))) pa_nil)))) (pg_tup rfl (pgs_cons (pg_name (i := 1) sc_law_spelled.nd rfl (Or.inr rfl)) (pgs_cons (pg_name (i := 2) sc_law_spelled.nd rfl (Or.inr rfl)) (pgs_cons (pg_name (i := 3) sc_law_spelled.nd rfl (Or.inr rfl)) pgs_nil)))))
    (pss_cons (ps_set (i := 4) sc_law_spelled.nd rfl (Or.inr rfl) (pe_join pe_str (pe_lc (own := [("_law_k", 5)]) rfl sc_law_spelled.nd (pi_range1 rfl T.m_range (pa_cons (pe_cl c_law_draw (hr.mono (by first | decide | omega)) rfl (pa_cons (pv 0) (pa_cons pe_int pa_nil))) pa_nil)) (blkOk_by (N := N_law_spelled) (sc := defScope s_law_spelled) (by decide +kernel)) (fun _ _ _ _ _ => (pg_name (i := 5) sc_law_spelled.nd rfl (Or.inl rfl))) (fun _ _ _ _ _ => pts_nil) (fun _ _ _ _ _ => (pe_cl c_law_pick (hr.mono (by first | decide | omega)) rfl (pa_cons (pv 0) (pa_cons (pv 1) pa_nil)))))))
    (pss_one (ps_ret (pe_lc (own := [("_law_k", 5)]) rfl sc_law_spelled.nd (pi_range1 rfl T.m_range (pa_cons pe_int pa_nil)) (blkOk_by (N := N_law_spelled) (sc := defScope s_law_spelled) (by decide +kernel)) (fun _ _ _ _ _ => (pg_name (i := 5) sc_law_spelled.nd rfl (Or.inl rfl))) (fun _ _ _ _ _ => pts_nil) (fun _ _ _ _ _ => (pe_op op_add_str (pe_op op_mulS (pe_ix ix_str (pv 1) (pe_op op_mod (pe_op op_add (pv 2) (pe_op op_mul (pv 3) (pv 5))) pe_int) (fun _ _ => rfl)) (pe_op op_add pe_int (pe_op op_fdiv (pv 5) pe_int))) (pe_slice sl_str (pv 4) po_none (po_some (pe_ix (r := rIxL K) ix_list (pe_lst (pa_cons pe_int (pa_cons pe_int pa_nil))) (pe_op op_mod (pv 5) pe_int) (fun _ _ => rfl))))))))))), ?_⟩
  refine ⟨_, rfl, t, c, 26, n, rfl, hT, ⟨by decide, by decide⟩, by omega, fun fst H1 hf T1 f1 => ?_⟩
  refine ⟨_, rfl, t, c, 5, _, rfl, T1, ⟨by decide, by decide⟩, by omega, fun by1 H2 hb T2 f2 => ?_⟩
  refine ⟨_, _, rfl, rfl, .inl ⟨by decide, by decide⟩, _, _, rfl, rfl, (by show 3 ≤ sizeLine; decide), ?_⟩
  (intro p p0; generalize hh_ : upd _ p _ = H3; have hp := upd_is hh_; have s3 := same_is hh_ p0; clear hh_)
  refine ⟨p, _, rfl, SqT.of hp, rfl, _, _, rfl, _, _, rfl, _, _, rfl, rfl, ?_⟩
  dsimp only
  have T3 := T2.same s3
  have f03 := (f1.trans f2).trans (Fr.same s3 _)
  have hby : (3 + 2 * by1 = 3 ∨ 3 + 2 * by1 = 5 ∨ 3 + 2 * by1 = 7 ∨ 3 + 2 * by1 = 9 ∨ 3 + 2 * by1 = 11) := by omega
  generalize 3 + 2 * by1 = bb at *
  refine ⟨⟨_, rfl⟩, _, rfl, t, c, 7, _, rfl, T3, ⟨by decide, by decide⟩, by omega, fun r H4 hr4 T4 f4 => ?_⟩
  refine ⟨_, rfl, (by omega), (by omega), fun dd hdd => ?_⟩
  have f04 := f03.trans f4
  refine lc_range (n := r.toNat) (fun i Hx => ∃ ys : List Str, Hx dd = some (.lst (ys.map V.str)) ∧ (∀ z ∈ ys, z.length = 1 ∧ ∀ c ∈ z.cps.toList, c < 1000) ∧ ys.length = i ∧ TapeAt Hx t c (n + 3 + i) ∧ Fr [t] H4 Hx) ?_ ?_ ?_
  · exact ⟨[], upd_same, by simp, rfl, T4.same (same_new hdd), Fr.new hdd⟩
  · rintro i Hx hi ⟨ys, h1, h2, h3, Tx, fx⟩
    refine ⟨rfl, ?_⟩
    refine ⟨_, rfl, _, rfl, t, c, .str alphabet, n + 3 + i, _, rfl, Tx, .inr ⟨alphabet, rfl, rfl⟩, (by rw [List.length_map, alpha_len]; decide), (by rw [List.length_map, alpha_len]; decide), by omega, fun v H5 hv T5 f5 => ?_⟩
    obtain ⟨cc, hcc, rfl⟩ := List.mem_map.mp hv
    have hd0 : H4 dd = none := hdd
    refine ⟨ys.map V.str, f5 _ _ h1 (not_in_one (Tx.ne_lst h1)), (by rw [List.length_map]; exact Nat.lt_of_lt_of_le (by omega : ys.length < 7) (by decide)), ?_⟩
    refine ⟨ys ++ [⟨#[cc]⟩], by rw [upd_same, List.map_append]; rfl, fun z hz => ?_, by simp [h3], (T5.put (T4.ne_new hd0) (T4.ne_newc hd0)).mono (by omega), Fr.freshU (fx.trans f5) hd0⟩
    rcases List.mem_append.mp hz with hz | hz
    · exact h2 z hz
    · rw [List.mem_singleton.mp hz]
      refine ⟨rfl, fun c hc => ?_⟩
      have : c ∈ [cc] := hc
      rw [List.mem_singleton.mp this]
      exact alpha_lt cc hcc
  rintro Hx ⟨ys, h1, h2, h3, Tx, fx⟩
  have hy : (ys.map (·.length)).sum = ys.length := sum_ones fun z hz => (h2 z hz).1
  have hb3 := join_small fun z hz => (h2 z hz).2
  refine ⟨_, dd, ys, rfl, rfl, .inl (SqL.of h1), (by rw [hy]; show _ + ys.length * 0 ≤ _; omega), ?_⟩
  have hb2 : (Txt.join "" ys).length ≤ 7 := by
    show (Builtin.Str.glued "" ys).length ≤ 7
    rw [StrLaws.glued_eq_join]
    refine Nat.le_trans (StrLaws.join_length_le "" ys) ?_
    rw [hy]
    show _ + ys.length * 0 ≤ _
    omega
  generalize Txt.join "" ys = tail at *
  clear hdd h1 h2 h3 hy p0 hp s3 f1 f2 f4 f03
  have f5 := f04.trans fx
  have T5 : TapeAt Hx t c (n + 10) := Tx.mono (by omega)
  clear Tx fx T1 T2 T3 T4 f04
  refine ⟨52, rfl, (by decide), (by decide), fun l hl => ?_⟩
  refine lc_mapR (n := 52) (fun i => V.str (wordW fst bb tail i)) hl (by decide) (fun i Hy N O hi sy kk => ⟨rfl, ?_⟩) fun Hy sy hy => ?_
  · refine ⟨_, rfl, _, rfl, _, rfl, _, rfl, _, _, rfl, rfl, .inl ⟨by omega, by omega⟩, _, _, rfl, rfl, _, _, rfl, rfl, (by show (0 : Int) < 26; decide), alphabet, _, letW fst bb i, rfl, rfl, alpha_small, (by rw [Int.zero_add]; exact letW_at fst bb i), ?_⟩
    refine ⟨_, rfl, _, _, rfl, rfl, ⟨by decide, by decide⟩, _, _, rfl, rfl, _, 1 + i / 26, rfl, congrArg V.int (by omega), by omega, by omega, (by show 1 ≤ 1000; decide), ?_⟩
    refine ⟨_, rfl, ?_⟩
    show tNoPart _ Hy _
    unfold tNoPart
    refine ⟨(by show 2 ≤ sizeLine; decide), ?_⟩
    (intro q q0; generalize hh_ : upd _ q _ = Hz; have hq := upd_is hh_; have sz := same_is hh_ q0; clear hh_)
    refine ⟨_, rfl, _, _, rfl, rfl, (by show (0 : Int) < 2; decide), q, _, _, .int (if i % 2 = 0 then 6 else 1), rfl, rfl, SqL.of hq, ?_, ?_⟩
    · rw [Int.zero_add]
      by_cases e : i % 2 = 0
      · rw [if_pos e, show (i : Int) % 2 = ((0 : Nat) : Int) by omega]
        exact atI_nat rfl
      · rw [if_neg e, show (i : Int) % 2 = ((1 : Nat) : Int) by omega]
        exact atI_nat rfl
    have kk' := kk Hz sz
    refine ⟨_, rfl, tail, rfl, Nat.le_trans hb2 (by decide), _, _, rfl, rfl, ?_, kk'⟩
    rw [timesS_len]
    have c6 := len_cut tail 6
    have c1 := len_cut tail 1
    have l1 : (⟨#[letW fst bb i]⟩ : Str).length = 1 := rfl
    rw [l1]
    have i2 : (1 + i / 26) * 1 ≤ 2 := by omega
    have cc : (cutS tail none (some (if i % 2 = 0 then 6 else 1))).length ≤ 6 := by
      by_cases e : i % 2 = 0
      · rw [if_pos e]; exact c6
      · rw [if_neg e]; exact Nat.le_trans c1 (by decide)
    exact Nat.le_trans (Nat.add_le_add i2 cc) (by decide)
  · refine k l ((List.range 52).map (wordW fst bb tail)) Hy (by rw [hy, List.map_map]; rfl) (by rw [List.length_map, List.length_range]) ?_ (T5.same sy) (f5.trans (Fr.same sy _)) ?_
    · rw [← List.map_take, List.take_range]
      refine ⟨words_nodup hby tail, fun x hx => ?_⟩
      obtain ⟨k, hk, rfl⟩ := List.mem_map.mp hx
      exact word_ok hb2 hb3 (List.mem_range.mp hk)
    · cases e : H l with
      | none => rfl
      | some o => 
        have ne : l ≠ t := T5.ne_new hl
        have := f5 l o e (not_in_one ne)
        rw [hl] at this
        cases this
end
end SG
namespace SG
open PySem PySem.Spec PyProof.Rows L2
theorem pick_new {K : PySem.W.Frag} {H : Hp} {t c : Addr} {n : Nat} {xs : List V} {Q : VK} (hT : TapeAt H t c n) (hn : n ≤ 1000000000) (hx : 1 ≤ xs.length ∧ xs.length ≤ 1000)
    (k : ∀ v H', v ∈ xs → TapeAt H' t c (n + 1) → Fr [t] H H' → Q v H') : ∀ p, H p = none → spPick K [.ref t, .ref p] (upd H p (.lst xs)) Q E0 := by
  intro p hp
  have pt := hT.ne_new hp
  have sm := same_new (o := .lst xs) hp
  exact ⟨t, c, _, n, xs, rfl, hT.same sm, .inl ⟨p, rfl, pt, SqL.of upd_same⟩, hx.1, hx.2, hn, fun v H' hv T' f' => k v H' hv T' ((Fr.same sm _).trans f')⟩
theorem sz {n : Nat} (h : n ≤ 100000) : n ≤ sizeLine := Nat.le_trans h (by decide)
/-- a wish of a label -/
def WishV (H : Hp) (lab : Str) (x : V) : Prop := ∃ (p : Addr) (k : V) (r : List V), x = .ref p ∧ H p = some (.tup (k :: .str lab :: r))
theorem WishV.tp {H H' : Hp} {lab : Str} {x : V} (h : WishV H lab x) (t : Tp H H') : WishV H' lab x := by
  obtain ⟨p, k, r, e, h⟩ := h
  exact ⟨p, k, r, e, t _ _ h⟩
def spWished : Sp := fun vs H Q _ => ∃ (t c : Addr) (n : Nat) (lab : Str), vs = [.ref t, .str lab, .int 0] ∧ TapeAt H t c n ∧ n ≤ 900000000 ∧
  ∀ (v : V) (H' : Hp), WishV H' lab v → TapeAt H' t c (n + 5) → Fr [t] H H' → Q v H'
section
variable {P : Program} {w : World} {K : PySem.W.Frag} {mg : Str → Option Value} {base : Heap}
theorem ok_wished (D : Df K mg "_law_wished" s_law_wished ["_law_tape", "_law_word", "_law_pulls"]) (T : Txt K mg) (c_law_draw : Cl P w K mg base 1 "_law_draw" spDraw) (c_law_pick : Cl P w K mg base 2 "_law_pick" (spPick K)) : Cl P w K mg base 3 "_law_wished" spWished := by
  refine D.ok sc_law_wished (fun vs H Q E h => ?_) (fun f cdv A outer s H vs Q E hr h => ?_)
  · obtain ⟨_, _, _, _, rfl, _⟩ := h
    rfl
  obtain ⟨t, c, n, lab, rfl, hT, hn, k⟩ := h
  refine ⟨_, -- _law_some = [('pull', _law_word, _law_pick(_law_tape, ['any', 'across', 'along']))] * (_law_pulls + 1)
    (pss_cons (ps_set (i := 3) sc_law_wished.nd rfl (Or.inl rfl) (pe_op op_rep (pe_lst (pa_cons (pe_tup (pa_cons pe_str (pa_cons (pv 1) (pa_cons (pe_cl c_law_pick (hr.mono (by first | decide | omega)) rfl (pa_cons (pv 0) (pa_cons (pe_lst (pa_cons pe_str (pa_cons pe_str (pa_cons pe_str pa_nil)))) pa_nil))) pa_nil)))) pa_nil)) (pe_op op_add (pv 2) pe_int)))
    (pss_cons (ps_set (i := 3) sc_law_wished.nd rfl (Or.inl rfl) (pe_op op_cat (pv 3) (pe_lst (pa_cons (pe_tup (pa_cons pe_str (pa_cons (pv 1) pa_nil))) (pa_cons (pe_tup (pa_cons pe_str (pa_cons (pv 1) pa_nil))) pa_nil)))))
    (pss_cons (ps_expr (pe_bm PySem.F.plainAttrs_list PySem.F.slot_list_append PySem.F.type_list_append mt_append (pv 3) (pa_cons (pe_tup (pa_cons pe_str (pa_cons (pv 1) (pa_cons (pe_cl c_law_pick (hr.mono (by first | decide | omega)) rfl (pa_cons (pv 0) (pa_cons (pe_lst (pa_cons pe_int (pa_cons pe_int (pa_cons pe_int (pa_cons pe_int (pa_cons (pe_op op_add pe_int (pe_cl c_law_draw (hr.mono (by first | decide | omega)) rfl (pa_cons (pv 0) (pa_cons pe_int pa_nil)))) pa_nil)))))) pa_nil))) pa_nil)))) pa_nil)))
    (pss_one (ps_ret (pe_cl c_law_pick (hr.mono (by first | decide | omega)) rfl (pa_cons (pv 0) (pa_cons (pe_op op_cat (pv 3) (pe_lc (own := [("_law_times", 4)]) rfl sc_law_wished.nd (pi_tup (pe_tup (pa_cons pe_int (pa_cons pe_int (pa_cons pe_int pa_nil))))) (blkOk_by (N := N_law_wished) (sc := defScope s_law_wished) (by decide +kernel)) (fun _ _ _ _ _ => (pg_name (i := 4) sc_law_wished.nd rfl (Or.inl rfl))) (fun _ _ _ _ _ => pts_nil) (fun _ _ _ _ _ => (pe_tup (pa_cons pe_str (pa_cons (pv 1) (pa_cons (pv 4) pa_nil))))))) pa_nil)))))))), ?_⟩
  refine ⟨_, rfl, _, rfl, (by show 3 ≤ sizeLine; decide), pick_new hT (by omega) ⟨by show 1 ≤ 3; decide, by show 3 ≤ 1000; decide⟩ fun v1 H1 hv1 T1 f1 => ?_⟩
  refine ⟨(by show 3 ≤ sizeLine; decide), ?_⟩
  (intro p1 p10; generalize hh_ : upd _ p1 _ = H2; have hp1 := upd_is hh_; have s2 := same_is hh_ p10; clear hh_)
  refine ⟨(by show 1 ≤ sizeLine; decide), ?_⟩
  (intro l1 l10; generalize hh_ : upd _ l1 _ = H3; have hl1 := upd_is hh_; have s3 := same_is hh_ l10; clear hh_)
  refine ⟨_, rfl, _, _, rfl, rfl, l1, _, _, rfl, rfl, hl1, (by decide), (by decide), (by show 1 ≤ sizeLine; decide), ?_⟩
  (intro l2 l20; generalize hh_ : upd _ l2 _ = H4; have hl2 := upd_is hh_; have s4 := same_is hh_ l20; clear hh_)
  have hl2' : H4 l2 = some (.lst [.ref p1]) := hl2
  clear hl2
  refine ⟨_, rfl, _, rfl, (by show 2 ≤ sizeLine; decide), ?_⟩
  (intro p2 p20; generalize hh_ : upd _ p2 _ = H5; have hp2 := upd_is hh_; have s5 := same_is hh_ p20; clear hh_)
  refine ⟨_, rfl, (by show 2 ≤ sizeLine; decide), ?_⟩
  (intro p3 p30; generalize hh_ : upd _ p3 _ = H6; have hp3 := upd_is hh_; have s6 := same_is hh_ p30; clear hh_)
  refine ⟨(by show 2 ≤ sizeLine; decide), ?_⟩
  (intro l3 l30; generalize hh_ : upd _ l3 _ = H7; have hl3 := upd_is hh_; have s7 := same_is hh_ l30; clear hh_)
  have s47 := s5.trans (s6.trans s7)
  refine ⟨l2, l3, _, _, rfl, rfl, s47 _ _ hl2', hl3, (by show 3 ≤ sizeLine; decide), ?_⟩
  have T7 := T1.same (s2.trans (s3.trans (s4.trans s47)))
  (intro l4 l40; generalize hh_ : upd _ l4 _ = H8; have hl4 := upd_is hh_; have s8 := same_is hh_ l40; clear hh_)
  have l4t := T7.ne_new l40
  have l4c := T7.ne_newc l40
  have h78 : Fr [t] H H7 := f1.trans (Fr.same (s2.trans (s3.trans (s4.trans s47))) _)
  clear T7
  have w1 : WishV H2 lab (.ref p1) := ⟨p1, _, _, rfl, hp1⟩
  have w2 : WishV H5 lab (.ref p2) := ⟨p2, _, _, rfl, hp2⟩
  have w3 : WishV H6 lab (.ref p3) := ⟨p3, _, _, rfl, hp3⟩
  have s28 := s3.trans (s4.trans (s47.trans s8))
  have hl4' : H8 l4 = some (.lst [.ref p1, .ref p2, .ref p3]) := hl4
  have T8 := T1.same (s2.trans s28)
  have f8 : Fr [t] H H8 := f1.trans (Fr.same (s2.trans s28) _)
  replace w1 := w1.tp (Tp.same s28)
  replace w2 := w2.tp (Tp.same (s6.trans (s7.trans s8)))
  replace w3 := w3.tp (Tp.same (s7.trans s8))
  clear hl4 hl3 hl2' hp1 hp2 hp3 hl1 s47 s28 f1 hv1 T1 s2 s3 s4 s5 s6 s7 s8
  refine ⟨_, rfl, .inl ⟨rfl, _, SqL.of hl4'⟩, _, rfl, _, rfl, _, rfl, t, c, 10000, _, rfl, T8, ⟨by decide, by decide⟩, by omega, fun r9 H9 hr9 T9 f9 => ?_⟩
  refine ⟨_, _, rfl, rfl, (by show 5 ≤ sizeLine; decide), pick_new T9 (by omega) ⟨by show 1 ≤ 5; decide, by show 5 ≤ 1000; decide⟩ fun v2 Ha hv2 Ta fa => ?_⟩
  refine ⟨(by show 3 ≤ sizeLine; decide), ?_⟩
  (intro p4 p40; generalize hh_ : upd _ p4 _ = Hb; have hp4 := upd_is hh_; have sb := same_is hh_ p40; clear hh_)
  have fab : Fr [t] H8 Hb := f9.trans (fa.trans (Fr.same sb _))
  have hl4b := fab _ _ hl4' (not_in_one l4t)
  have tp8b := T8.tp fab
  refine ⟨l4, _, _, rfl, rfl, hl4b, (by show 3 < sizeLine; decide), ?_⟩
  have Tc' : TapeAt (upd Hb l4 (.lst ([V.ref p1, .ref p2, .ref p3] ++ [V.ref p4]))) t c (n + 3) := ((Ta.same sb).put l4t l4c)
  have tpc : Tp Hb (upd Hb l4 (.lst ([V.ref p1, .ref p2, .ref p3] ++ [V.ref p4]))) := Tp.putL hl4b
  have w4 : WishV Hb lab (.ref p4) := ⟨p4, _, _, rfl, hp4⟩
  have hl4c : (upd Hb l4 (.lst ([V.ref p1, .ref p2, .ref p3] ++ [V.ref p4]))) l4 = some (.lst [V.ref p1, .ref p2, .ref p3, .ref p4]) := upd_same
  have l40H : H l4 = none := by
    cases e : H l4 with
    | none => rfl
    | some o =>
      have := h78 _ _ e (not_in_one l4t)
      rw [l40] at this
      cases this
  have fc : Fr [t] H (upd Hb l4 (.lst ([V.ref p1, .ref p2, .ref p3] ++ [V.ref p4]))) := Fr.freshU (f8.trans fab) l40H
  have ws : ∀ x ∈ [V.ref p1, .ref p2, .ref p3, .ref p4], WishV (upd Hb l4 (.lst ([V.ref p1, .ref p2, .ref p3] ++ [V.ref p4]))) lab x := by
    intro x hx
    simp only [List.mem_cons, List.not_mem_nil, or_false] at hx
    rcases hx with rfl | rfl | rfl | rfl
    · exact w1.tp (tp8b.trans tpc)
    · exact w2.tp (tp8b.trans tpc)
    · exact w3.tp (tp8b.trans tpc)
    · exact w4.tp tpc
  generalize upd Hb l4 (.lst ([V.ref p1, .ref p2, .ref p3] ++ [V.ref p4])) = Hc at *
  refine ⟨_, rfl, _, rfl, (by show 3 ≤ sizeLine; decide), ?_⟩
  (intro tt tt0; generalize hh_ : upd _ tt _ = Hd; have htt := upd_is hh_; have sd := same_is hh_ tt0; clear hh_)
  refine ⟨tt, rfl, ⟨_, SqT.of htt⟩, fun dd hdd => ?_⟩
  refine lc_tup (K := K) (a := tt) (xs := [.int 1, .int 2, .int 3]) (fun i Hx => ∃ ys : List V, Hx dd = some (.lst ys) ∧ (∀ y ∈ ys, WishV Hx lab y) ∧ ys.length ≤ i ∧ Same Hd Hx) ?_ ?_ ?_ ?_
  · exact ⟨[], upd_same, (fun _ h => nomatch h), Nat.le_refl _, same_new hdd⟩
  · intro i Hx _ ⟨_, _, _, _, sx⟩
    exact SqT.of (sx _ _ htt)
  · rintro i x Hx hi ⟨ys, y1, y2, y3, sx⟩
    have li : i < 3 := (List.getElem?_eq_some_iff.mp hi).1
    refine ⟨rfl, ?_⟩
    refine ⟨_, rfl, _, rfl, (by show 3 ≤ sizeLine; decide), ?_⟩
    (intro q q0; generalize hh_ : upd _ q _ = Hy; have hq := upd_is hh_; have sy := same_is hh_ q0; clear hh_)
    refine ⟨ys, sy _ _ y1, small100 (by omega), ys ++ [.ref q], upd_same, ?_, by rw [List.length_append]; show _ + 1 ≤ _; omega, ?_⟩
    · intro y hy
      rcases List.mem_append.mp hy with hy | hy
      · exact (y2 y hy).tp ((Tp.same sy).trans (Tp.putL (sy _ _ y1)))
      · rw [List.mem_singleton.mp hy]
        exact WishV.tp ⟨q, _, _, rfl, hq⟩ (Tp.putL (sy _ _ y1))
    · intro z o e
      rw [upd_ne (fun h => by rw [h, show Hd dd = none from hdd] at e; cases e)]
      exact sy _ _ (sx _ _ e)
  · rintro Hx ⟨ys, y1, y2, y3, sx⟩
    have y3' : ys.length ≤ 3 := y3
    have sdx := sd.trans sx
    refine ⟨l4, dd, _, _, rfl, rfl, sdx _ _ hl4c, y1, sz (by show 4 + ys.length ≤ 100000; omega), ?_⟩
    refine pick_new (Tc'.same sdx) (by omega) ⟨by rw [List.length_append]; show 1 ≤ 4 + _; omega, by rw [List.length_append]; show 4 + _ ≤ 1000; omega⟩ fun v Hz hv Tz fz => ?_
    refine k v Hz ?_ (Tz.mono (by omega)) (fc.trans ((Fr.same sdx _).trans fz))
    have tz := (Tc'.same sdx).tp fz
    rcases List.mem_append.mp hv with hv | hv
    · exact (ws v hv).tp ((Tp.same sdx).trans tz)
    · exact (y2 v hv).tp tz
end
end SG
namespace SG
open PySem PySem.Spec PyProof.Rows L2
section
variable {H : Hp} {p : Addr}
theorem dp_strL {K : PySem.W.Frag} {ws : List Str} (h : H p = some (.lst (ws.map V.str))) : Dp K H (.ref p) (.list (ws.map PyData.str)) := .lst (SqL.of h) (dp_strs ws)
theorem plain_strs : ∀ ws : List Str, PyData.plainAll (ws.map PyData.str) = true
  | [] => rfl
  | x :: r => by
    show (true && PyData.plainAll (r.map PyData.str)) = true
    rw [plain_strs r]; rfl
theorem depth_strs : ∀ ws : List Str, PyData.depthAll (ws.map PyData.str) = 0
  | [] => rfl
  | x :: r => by
    show max 0 (PyData.depthAll (r.map PyData.str)) = 0
    rw [depth_strs r]; rfl
theorem eqv_nil (ws : List Str) : PyData.eqv (.list (ws.map PyData.str)) (.list (([] : List Str).map PyData.str)) = ws.isEmpty := by
  cases ws <;> simp [PyData.eqv, PyData.eqvAll]
end
theorem cut_map (ws : List Str) (lo hi : Option Int) : ∃ us : List Str, cutV (ws.map V.str) lo hi = us.map V.str := by
  refine ⟨(ws.drop (HT.sIx ws.length 0 lo)).take (HT.sIx ws.length ws.length hi - HT.sIx ws.length 0 lo), ?_⟩
  unfold cutV
  rw [List.map_take, List.map_drop, List.length_map]
/-- all but a dict and a list of ours stay -/
theorem Fr.tp2 {H H' : Hp} {t lb : Addr} {kvs : List (Key × V)} {xs : List V} (f : Fr [t, lb] H H') (ht : H t = some (.dK kvs)) (hl : H lb = some (.lst xs)) : Tp H H' := fun q ys e => f q _ e (by
  simp
  exact ⟨fun z => (by rw [z, ht] at e; cases e), fun z => (by rw [z, hl] at e; cases e)⟩)
theorem TapeAt.tpl {H H' : Hp} {t c lb : Addr} {n : Nat} {xs : List V} (h : TapeAt H t c n) (hl : H lb = some (.lst xs)) (f : Fr [t, lb] H H') : Tp H H' := by
  obtain ⟨kvs, e⟩ := h.is
  exact f.tp2 e hl
theorem Fr.w2 {H H' : Hp} {t lb : Addr} (f : Fr [t] H H') : Fr [t, lb] H H' := f.mono (by simp)
theorem Fr.d2 {H H0 H' : Hp} {t lb : Addr} (a : Fr [t] H H0) (f : Fr [t, lb] H0 H') (h0 : H lb = none) : Fr [t] H H' := fun q o e n => f q o (a q o e n) (by
  simp at n ⊢
  exact ⟨n, fun z => (by rw [z, h0] at e; cases e)⟩)
/-- labels' wishes, some of them -/
def Wishes (H : Hp) (ys : List V) : Prop := ∀ y ∈ ys, ∃ lab, WishV H lab y
theorem Wishes.tp {H H' : Hp} {ys : List V} (h : Wishes H ys) (t : Tp H H') : Wishes H' ys := fun y hy => by
  obtain ⟨l, w⟩ := h y hy
  exact ⟨l, w.tp t⟩
theorem Wishes.snoc {H : Hp} {ys : List V} {y : V} {lab : Str} (h : Wishes H ys) (w : WishV H lab y) : Wishes H (ys ++ [y]) := fun x hx => by
  rcases List.mem_append.mp hx with hx | hx
  · exact h x hx
  · rw [List.mem_singleton.mp hx]
    exact ⟨lab, w⟩
/-- a list of pairs -/
def Pairs (H : Hp) (ps : List V) : Prop := ∀ y ∈ ps, ∃ (p : Addr) (a b : V), y = .ref p ∧ H p = some (.tup [a, b])
theorem Pairs.tp {H H' : Hp} {ps : List V} (h : Pairs H ps) (t : Tp H H') : Pairs H' ps := fun y hy => by
  obtain ⟨p, a, b, e, h⟩ := h y hy
  exact ⟨p, a, b, e, t _ _ h⟩
theorem strs_of {ss : List Str} : ∀ {ys : List V}, (∀ y ∈ ys, y ∈ ss.map V.str) → ∃ zs : List Str, ys = zs.map V.str
  | [], _ => ⟨[], rfl⟩
  | y :: r, h => by
    obtain ⟨z, _, e⟩ := List.mem_map.mp (h y List.mem_cons_self)
    obtain ⟨zs, e2⟩ := strs_of fun x hx => h x (List.mem_cons_of_mem _ hx)
    exact ⟨z :: zs, by rw [e2, ← e]; rfl⟩
theorem lenT : ∀ ks : List Tr, ks.length ≤ (nmsT ks).length
  | [] => Nat.le_refl _
  | p :: r => by
    have := lenT r
    show r.length + 1 ≤ (p.nms ++ nmsT r).length
    rw [List.length_append, nms_eq, List.length_cons]
    omega
def spDrawn : Sp := fun vs H Q _ => ∃ (t c : Addr) (n : Nat), vs = [.ref t, .int 0] ∧ TapeAt H t c n ∧ n ≤ 800000000 ∧
  ∀ (r : Addr) (p : Tr) (x y : V) (H' : Hp), H' r = some (.tup [.ref p.a, x, y]) → PtAt H' 6 p → (p.nms.Nodup ∧ ∀ x ∈ p.nms, OkN x) → p.nms.length ≤ 30 → TapeAt H' t c (n + 9000) → Fr [t] H H' → Q (.ref r) H'
/-- the loop's parts: words, labels so far, the parts so far, how deep -/
structure LpAt (H0 H : Hp) (t c : Addr) (n i : Nat) (wl so ia lb : Addr) (ws ss ls : List Str) (fs : List Tr) (deep : Nat) : Prop where
  hw : H wl = some (.lst (ws.map V.str))
  w52 : ws.length = 52
  wn : (ws.take 26).Nodup
  wo : ∀ x ∈ ws.take 26, OkN x
  hs : H so = some (.lst (ss.map V.str))
  hl : H lb = some (.lst (ls.map V.str))
  few : ss.length + ls.length ≤ 60
  hi : H ia = some (.tup (fs.map fun k => V.ref k.a))
  pt : ∀ p ∈ fs, PtAt H deep p
  d1 : 1 ≤ deep
  d5 : deep ≤ 5
  nd : (nmsT fs).Nodup
  nin : ∀ x ∈ nmsT fs, x ∈ ws.take i
  nl : (nmsT fs).length = i
  T : TapeAt H t c n
  f : Fr [t] H0 H
  wb : wl ≠ lb
  sb : so ≠ lb
  bt : lb ≠ t
  bc : lb ≠ c
  b0 : H0 lb = none
theorem LpAt.fr {H0 H H' : Hp} {t c wl so ia lb : Addr} {n i m deep : Nat} {ws ss ls : List Str} {fs : List Tr} (h : LpAt H0 H t c n i wl so ia lb ws ss ls fs deep) (T' : TapeAt H' t c m) (f' : Fr [t] H H') : LpAt H0 H' t c m i wl so ia lb ws ss ls fs deep :=
  have tp := h.T.tp f'
  ⟨f' _ _ h.hw (not_in_one (h.T.ne_lst h.hw)), h.w52, h.wn, h.wo, f' _ _ h.hs (not_in_one (h.T.ne_lst h.hs)), f' _ _ h.hl (not_in_one (h.T.ne_lst h.hl)), h.few, tp _ _ h.hi, (fun p hp => (h.pt p hp).tp tp), h.d1, h.d5, h.nd, h.nin, h.nl, T', h.f.trans f', h.wb, h.sb, h.bt, h.bc, h.b0⟩
theorem LpAt.mono {H0 H : Hp} {t c wl so ia lb : Addr} {n i m deep : Nat} {ws ss ls : List Str} {fs : List Tr} (h : LpAt H0 H t c n i wl so ia lb ws ss ls fs deep) (q : n ≤ m) : LpAt H0 H t c m i wl so ia lb ws ss ls fs deep :=
  { h with T := h.T.mono q }
theorem LpAt.same {H0 H H' : Hp} {t c wl so ia lb : Addr} {n i deep : Nat} {ws ss ls : List Str} {fs : List Tr} (h : LpAt H0 H t c n i wl so ia lb ws ss ls fs deep) (s : Same H H') : LpAt H0 H' t c n i wl so ia lb ws ss ls fs deep :=
  h.fr (h.T.same s) (Fr.same s _)
theorem LpAt.put {H0 H : Hp} {t c wl so ia lb p : Addr} {n i deep : Nat} {ws ss ls : List Str} {fs : List Tr} {acc zs : List V} (h : LpAt H0 H t c n i wl so ia lb ws ss ls fs deep) (hd : H p = some (.lst acc)) (n1 : p ≠ wl) (n2 : p ≠ so) (n3 : p ≠ lb) (n4 : p ≠ t) (n5 : p ≠ c) (p0 : H0 p = none) :
    LpAt H0 (upd H p (.lst zs)) t c n i wl so ia lb ws ss ls fs deep :=
  have tp : Tp H (upd H p (.lst zs)) := Tp.putL hd
  ⟨by rw [upd_ne n1.symm]; exact h.hw, h.w52, h.wn, h.wo, by rw [upd_ne n2.symm]; exact h.hs, by rw [upd_ne n3.symm]; exact h.hl, h.few, tp _ _ h.hi, (fun p hp => (h.pt p hp).tp tp), h.d1, h.d5, h.nd, h.nin, h.nl, h.T.put n4 n5, Fr.freshU h.f p0, h.wb, h.sb, h.bt, h.bc, h.b0⟩
theorem LpAt.pop {H0 H : Hp} {t c wl so ia lb : Addr} {n i deep : Nat} {ws ss ls : List Str} {fs : List Tr} (h : LpAt H0 H t c n i wl so ia lb ws ss ls fs deep) : LpAt H0 (upd H lb (.lst (ls.map V.str).dropLast)) t c n i wl so ia lb ws ss ls.dropLast fs deep :=
  have tp : Tp H (upd H lb (.lst (ls.map V.str).dropLast)) := Tp.putL h.hl
  ⟨by rw [upd_ne h.wb]; exact h.hw, h.w52, h.wn, h.wo, by rw [upd_ne h.sb]; exact h.hs, by rw [upd_same, List.map_dropLast], Nat.le_trans (Nat.add_le_add_left (by rw [List.length_dropLast]; omega) _) h.few, tp _ _ h.hi, (fun p hp => (h.pt p hp).tp tp), h.d1, h.d5, h.nd, h.nin, h.nl, h.T.put h.bt h.bc, Fr.freshU h.f h.b0, h.wb, h.sb, h.bt, h.bc, h.b0⟩
section
variable {P : Program} {w : World} {K : PySem.W.Frag} {mg : Str → Option Value} {base : Heap}
theorem ok_drawn (D : Df K mg "_law_drawn" s_law_drawn ["_law_tape", "_law_pulls"]) (T : Txt K mg) (c_law_draw : Cl P w K mg base 1 "_law_draw" spDraw) (c_law_pick : Cl P w K mg base 2 "_law_pick" (spPick K)) (c_law_spelled : Cl P w K mg base 3 "_law_spelled" spSpelled) (c_law_wished : Cl P w K mg base 3 "_law_wished" spWished) : Cl P w K mg base 4 "_law_drawn" spDrawn := by
  refine D.ok sc_law_drawn (fun vs H Q E h => ?_) (fun f cdv A outer s H vs Q E hr h => ?_)
  · obtain ⟨_, _, _, rfl, _⟩ := h
    rfl
  obtain ⟨t, c, n, rfl, hT, hn, k⟩ := h
  refine ⟨_, -- _law_words, _law_some, _law_inner, _law_deep = (_law_spelled(_law_tape), [], (), 1)
    (pss_cons (ps_asg (pe_tup (pa_cons (pe_cl c_law_spelled (hr.mono (by first | decide | omega)) rfl (pa_cons (pv 0) pa_nil)) (pa_cons (pe_lst pa_nil) (pa_cons (pe_tup pa_nil) (pa_cons pe_int pa_nil))))) (pg_tup rfl (pgs_cons (pg_name (i := 2) sc_law_drawn.nd rfl (Or.inl rfl)) (pgs_cons (pg_name (i := 3) sc_law_drawn.nd rfl (Or.inr rfl)) (pgs_cons (pg_name (i := 4) sc_law_drawn.nd rfl (Or.inl rfl)) (pgs_cons (pg_name (i := 5) sc_law_drawn.nd rfl (Or.inl rfl)) pgs_nil))))))
    (pss_cons (ps_set (i := 6) sc_law_drawn.nd rfl (Or.inr rfl) (pe_slice sl_list (pv 2) (po_some (pe_op op_add pe_int (pe_cl c_law_pick (hr.mono (by first | decide | omega)) rfl (pa_cons (pv 0) (pa_cons (pe_lst (pa_cons pe_int (pa_cons pe_int (pa_cons pe_int (pa_cons pe_int pa_nil))))) pa_nil))))) po_none))
    (C8.pss_cut (ps_for PassesOwn.never rfl (pi_range1 rfl T.m_range (pa_cons (pe_op op_add pe_int (pe_cl c_law_pick (hr.mono (by first | decide | omega)) rfl (pa_cons (pv 0) (pa_cons (pe_lst (pa_cons (pe_cl c_law_draw (hr.mono (by first | decide | omega)) rfl (pa_cons (pv 0) (pa_cons pe_int pa_nil))) (pa_cons pe_int (pa_cons pe_int (pa_cons (pe_cl c_law_draw (hr.mono (by first | decide | omega)) rfl (pa_cons (pv 0) (pa_cons pe_int pa_nil))) pa_nil))))) pa_nil)))) pa_nil)) (pg_name (i := 7) sc_law_drawn.nd rfl (Or.inl rfl))
      (pss_cons (ps_set (i := 8) sc_law_drawn.nd rfl (Or.inl rfl) (pe_cl c_law_pick (hr.mono (by first | decide | omega)) rfl (pa_cons (pv 0) (pa_cons (pe_op op_cat (pe_op op_rep (pe_lst (pa_cons (pe_cl c_law_draw (hr.mono (by first | decide | omega)) rfl (pa_cons (pv 0) (pa_cons pe_int pa_nil))) pa_nil)) pe_int) (pe_lst (pa_cons (pe_op op_add pe_int (pe_cl c_law_draw (hr.mono (by first | decide | omega)) rfl (pa_cons (pv 0) (pa_cons pe_int pa_nil)))) pa_nil))) pa_nil))))
      (C8.pss_cut (ps_setLc (i := 9) (own := [("_law_n", 19)]) rfl sc_law_drawn.nd rfl rfl (sw_true rfl rfl rfl (by decide +kernel)) (pi_range1 rfl T.m_range (pa_cons (pv 8) pa_nil)) (blkOk_by (N := N_law_drawn) (sc := defScope s_law_drawn) (by decide +kernel)) (fun _ _ _ _ _ => (pg_name (i := 19) sc_law_drawn.nd rfl (Or.inl rfl))) (fun _ _ _ _ _ => pts_one (pt_cmpR (r := rNeP K) (op_neP hr.units) (pv 6) (pe_lst pa_nil) (nomark _))) (fun _ _ _ _ _ => (pe_cl c_law_wished (hr.mono (by first | decide | omega)) rfl (pa_cons (pv 0) (pa_cons (pe_bm0K (K := K) PySem.F.plainAttrs_list PySem.F.slot_list_pop PySem.F.type_list_pop mt_pop (pv 6)) (pa_cons (pv 1) pa_nil))))))
      (C8.pss_cut (ps_set (i := 3) sc_law_drawn.nd rfl (Or.inr rfl) (pe_op op_cat (pv 3) (pe_lc (own := [("_law_wish", 22)]) rfl sc_law_drawn.nd (pi_list (pv 9)) (blkOk_by (N := N_law_drawn) (sc := defScope s_law_drawn) (by decide +kernel)) (fun _ _ _ _ _ => (pg_name (i := 22) sc_law_drawn.nd rfl (Or.inl rfl))) (fun _ _ _ _ _ => pts_nil) (fun _ _ _ _ _ => (pe_ix (r := rIxT K) ix_tup (pv 22) pe_int (fun _ _ => rfl))))))
      (C8.pss_cut (ps_par (i := 10) (j := 11) rfl sc_law_drawn.nd rfl rfl (by decide) rfl rfl (pa_cons (pe_cl c_law_pick (hr.mono (by first | decide | omega)) rfl (pa_cons (pv 0) (pa_cons (pe_lst (pa_cons pe_int (pa_cons pe_int (pa_cons pe_int (pa_cons pe_int pa_nil))))) pa_nil))) (pa_cons (pe_and (pe_cmpR op_lt (pv 5) pe_int (nomark _)) (pe_one (pe_cmpR op_gt (pe_cl c_law_draw (hr.mono (by first | decide | omega)) rfl (pa_cons (pv 0) (pa_cons pe_int pa_nil))) pe_int (nomark _)))) pa_nil)) rfl)
      (C8.pss_cut (ps_set (i := 12) sc_law_drawn.nd rfl (Or.inl rfl) (pe_cl c_law_pick (hr.mono (by first | decide | omega)) rfl (pa_cons (pv 0) (pa_cons (pe_lst (pa_cons pe_non (pa_cons (pe_tup (pa_cons pe_str (pa_cons (pe_op op_sub pe_int (pv 10)) (pa_cons pe_int pa_nil)))) (pa_cons (pe_tup (pa_cons pe_str (pa_cons (pe_un un_neg pe_int) (pa_cons (pv 10) pa_nil)))) pa_nil)))) pa_nil))))
      (pss_cons (ps_setLc (i := 13) (own := [("_law_side", 20)]) rfl sc_law_drawn.nd rfl rfl (sw_true rfl rfl rfl (by decide +kernel)) (pi_tup (pe_tup (pa_cons pe_int (pa_cons pe_int (pa_cons pe_int (pa_cons pe_int pa_nil)))))) (blkOk_by (N := N_law_drawn) (sc := defScope s_law_drawn) (by decide +kernel)) (fun _ _ _ _ _ => (pg_name (i := 20) sc_law_drawn.nd rfl (Or.inl rfl))) (fun _ _ _ _ _ => pts_nil) (fun _ _ _ _ _ => (pe_cl c_law_draw (hr.mono (by first | decide | omega)) rfl (pa_cons (pv 0) (pa_cons (pv 20) pa_nil)))))
      (C8.pss_cut (ps_set (i := 13) sc_law_drawn.nd rfl (Or.inl rfl) (pe_tup (pa_cons (pe_op op_sub (pe_ix ix_list (pv 13) pe_int (fun _ _ => rfl)) pe_int) (pa_cons (pe_op op_sub (pe_ix ix_list (pv 13) pe_int (fun _ _ => rfl)) pe_int) (pa_cons (pe_op op_add (pe_op op_add (pe_ix ix_list (pv 13) pe_int (fun _ _ => rfl)) pe_int) (pe_op op_mul pe_int (pv 7))) (pa_cons (pe_op op_add (pe_op op_add (pe_ix ix_list (pv 13) pe_int (fun _ _ => rfl)) pe_int) (pe_op op_mul pe_int (pv 7))) pa_nil))))))
      (C8.pss_cut (ps_set (i := 14) sc_law_drawn.nd rfl (Or.inl rfl) (pe_tup (pa_cons (pe_ix ix_list (pv 2) (pv 7) (fun _ _ => rfl)) (pa_cons (pv 13) (pa_cons (pe_cl c_law_pick (hr.mono (by first | decide | omega)) rfl (pa_cons (pv 0) (pa_cons (pe_lst (pa_cons pe_non (pa_cons pe_str (pa_cons pe_str pa_nil)))) pa_nil))) (pa_cons (pv 12) (pa_cons (pe_tupleOf rfl T.m_tuple (pv 9)) pa_nil)))))))
      (pss_cons (ps_set (i := 4) sc_law_drawn.nd rfl (Or.inl rfl) (pe_ifExp (pt_val (pv 11)) (pe_tup (pa_cons (pe_op op_catA (pv 14) (pe_tup (pa_cons (pv 4) pa_nil))) pa_nil)) (pe_op op_catA (pv 4) (pe_tup (pa_cons (pe_op op_catA (pv 14) (pe_tup (pa_cons (pe_tup pa_nil) pa_nil))) pa_nil)))))
      (pss_one (ps_set (i := 5) sc_law_drawn.nd rfl (Or.inl rfl) (pe_op op_add (pv 5) (pe_callTy call_int1 rfl T.m_int (by decide +kernel) (pa_cons (pv 11) pa_nil)))))))))))))))
    (C8.pss_cut (ps_set (i := 3) sc_law_drawn.nd rfl (Or.inr rfl) (pe_op op_cat (pe_callB cr_sortedS (by rfl) T.m_sorted (by decide +kernel) (pa_cons (pe_stepL (pv 3) po_none) pa_nil)) (pe_stepL (pv 3) (po_some pe_int))))
    (C8.pss_cut (ps_setLc (i := 15) (own := [("_law_k", 7)]) rfl sc_law_drawn.nd rfl rfl (sw_true rfl rfl rfl (by decide +kernel)) (pi_range1 rfl T.m_range (pa_cons (pe_op op_mul pe_int (pe_callB call_len_seq (by rfl) T.m_len PySem.boot_len (pa_cons (pv 3) pa_nil))) pa_nil)) (blkOk_by (N := N_law_drawn) (sc := defScope s_law_drawn) (by decide +kernel)) (fun _ _ _ _ _ => (pg_name (i := 7) sc_law_drawn.nd rfl (Or.inl rfl))) (fun _ _ _ _ _ => pts_one (pt_cmpR op_lt (pe_op op_mod (pv 7) pe_int) (pe_op op_fdiv (pv 7) pe_int) (nomark _))) (fun _ _ _ _ _ => (pe_tup (pa_cons (pe_ix (r := rIxL K) ix_list (pv 3) (pe_op op_mod (pv 7) pe_int) (fun _ _ => rfl)) (pa_cons (pe_ix (r := rIxL K) ix_list (pv 3) (pe_op op_fdiv (pv 7) pe_int) (fun _ _ => rfl)) pa_nil)))))
    (C8.pss_cut (ps_set (i := 16) sc_law_drawn.nd rfl (Or.inr rfl) (pe_lc (own := [("_law_k", 7)]) rfl sc_law_drawn.nd (pi_range1 rfl T.m_range (pa_cons pe_int pa_nil)) (blkOk_by (N := N_law_drawn) (sc := defScope s_law_drawn) (by decide +kernel)) (fun _ _ _ _ _ => (pg_name (i := 7) sc_law_drawn.nd rfl (Or.inl rfl))) (fun _ _ _ _ _ => pts_nil) (fun _ _ _ _ _ => (pe_cl c_law_pick (hr.mono (by first | decide | omega)) rfl (pa_cons (pv 0) (pa_cons (pe_lst (pa_cons pe_int (pa_cons (pe_op op_add pe_int (pe_cl c_law_draw (hr.mono (by first | decide | omega)) rfl (pa_cons (pv 0) (pa_cons pe_int pa_nil)))) pa_nil))) pa_nil))))))
    (C8.pss_cut (ps_set (i := 17) sc_law_drawn.nd rfl (Or.inl rfl) (pe_tupleOf rfl T.m_tuple (pe_lc (own := [("_law_pair", 21)]) rfl sc_law_drawn.nd (pi_list (pv 15)) (blkOk_by (N := N_law_drawn) (sc := defScope s_law_drawn) (by decide +kernel)) (fun _ _ _ _ _ => (pg_name (i := 21) sc_law_drawn.nd rfl (Or.inl rfl))) (fun _ _ _ _ _ => pts_one (pt_cmpR op_eq (pe_cl c_law_draw (hr.mono (by first | decide | omega)) rfl (pa_cons (pv 0) (pa_cons (pe_ix (r := rIxL K) ix_list (pv 16) pe_int (fun _ _ => rfl)) pa_nil))) pe_int (nomark _))) (fun _ _ _ _ _ => (pv 21)))))
    (C8.pss_cut (ps_set (i := 18) sc_law_drawn.nd rfl (Or.inl rfl) (pe_tupleOf rfl T.m_tuple (pe_slice sl_list (pe_lc (own := [("_law_pair", 21)]) rfl sc_law_drawn.nd (pi_list (pv 15)) (blkOk_by (N := N_law_drawn) (sc := defScope s_law_drawn) (by decide +kernel)) (fun _ _ _ _ _ => (pg_name (i := 21) sc_law_drawn.nd rfl (Or.inl rfl))) (fun _ _ _ _ _ => pts_one (pt_cmpR op_eq (pe_cl c_law_draw (hr.mono (by first | decide | omega)) rfl (pa_cons (pv 0) (pa_cons (pe_ix (r := rIxL K) ix_list (pv 16) pe_int (fun _ _ => rfl)) pa_nil))) pe_int (nomark _))) (fun _ _ _ _ _ => (pe_revFK (K := K) (pv 21)))) po_none (po_some pe_int))))
    (pss_one (ps_ret (pe_tup (pa_cons (pe_tup (pa_cons (pe_ix ix_list (pv 2) pe_int (fun _ _ => rfl)) (pa_cons (pe_tup (pa_cons (pe_un un_neg pe_int) (pa_cons (pe_un un_neg pe_int) (pa_cons pe_int (pa_cons pe_int pa_nil))))) (pa_cons pe_str (pa_cons (pe_tup (pa_cons pe_str (pa_cons (pe_un un_neg pe_int) (pa_cons pe_int pa_nil)))) (pa_cons (pe_tup pa_nil) (pa_cons (pv 4) pa_nil))))))) (pa_cons (pv 17) (pa_cons (pv 18) pa_nil)))))))))))))), ?_⟩
  refine ⟨_, rfl, t, c, n, rfl, hT, by omega, fun wl ws H1 hw w52 ⟨wn, wo⟩ T1 f1 wl0 => ?_⟩
  refine ⟨(by show 0 ≤ sizeLine; decide), ?_⟩
  (intro so so0; generalize hh_ : upd _ so _ = H2; have hso := upd_is hh_; have s2 := same_is hh_ so0; clear hh_)
  refine ⟨(by show 0 ≤ sizeLine; decide), ?_⟩
  (intro ia ia0; generalize hh_ : upd _ ia _ = H3; have hia := upd_is hh_; have s3 := same_is hh_ ia0; clear hh_)
  refine ⟨(by show 4 ≤ sizeLine; decide), ?_⟩
  (intro q q0; generalize hh_ : upd _ q _ = H4; have hq := upd_is hh_; have s4 := same_is hh_ q0; clear hh_)
  refine ⟨q, _, rfl, SqT.of hq, rfl, _, _, rfl, _, _, rfl, _, _, rfl, _, _, rfl, rfl, ?_⟩
  have s14 := s2.trans (s3.trans s4)
  have T4 := T1.same s14
  refine ⟨_, rfl, _, rfl, (by show 4 ≤ sizeLine; decide), pick_new T4 (by omega) ⟨by show 1 ≤ 4; decide, by show 4 ≤ 1000; decide⟩ fun v5 H5 hv5 T5 f5 => ?_⟩
  obtain ⟨z, rfl⟩ : ∃ z : Int, v5 = .int z := by
    simp only [List.mem_cons, List.not_mem_nil, or_false] at hv5
    rcases hv5 with rfl | rfl | rfl | rfl <;> exact ⟨_, rfl⟩
  refine ⟨_, _, rfl, rfl, _, rfl, ?_⟩
  show tNoPart _ H5 _
  unfold tNoPart
  have wt := T1.ne_lst hw
  have hw5 := f5 _ _ (s14 _ _ hw) (not_in_one wt)
  refine ⟨wl, _, rfl, SqL.of hw5, ?_⟩
  obtain ⟨ls, els⟩ := cut_map ws (some (26 + z)) none
  have lls : ls.length ≤ 52 := by
    have := cutV_length (ws.map V.str) (some (26 + z)) none
    rw [els, List.length_map, List.length_map] at this
    omega
  rw [els]
  (intro lb lb0; generalize hh_ : upd _ lb _ = H6; have hlb := upd_is hh_; have s6 := same_is hh_ lb0; clear hh_)
  have f56 := f5.trans (Fr.same s6 [t])
  have T6 := T5.same s6
  have f06 := (f1.trans (Fr.same s14 _)).trans f56
  have hso' := f56 _ _ ((s3.trans s4) _ _ hso) (not_in_one (T4.ne_lst ((s3.trans s4) _ _ hso)))
  have hia' := f56 _ _ (s4 _ _ hia) (not_in_one (T4.ne_tup (s4 _ _ hia)))
  have hw6 := s6 _ _ hw5
  have lbt := T5.ne_new lb0
  have lbc := T5.ne_newc lb0
  have b0 : H lb = none := by
    cases e : H lb with
    | none => rfl
    | some o =>
      have := (f1.trans ((Fr.same s14 _).trans f5)) _ _ e (not_in_one lbt)
      rw [lb0] at this
      cases this
  have L0 : LpAt H H6 t c (n + 40) 0 wl so ia lb ws [] ls [] 1 := ⟨hw6, w52, wn, wo, hso', hlb, by show 0 + _ ≤ 60; omega, hia', (fun _ h => nomatch h), by decide, by decide, List.nodup_nil, (fun _ h => nomatch h), rfl, T6.mono (by omega), f06, ne_of_none hw5 lb0, ne_of_none (f5 _ _ ((s3.trans s4) _ _ hso) (not_in_one (T4.ne_lst ((s3.trans s4) _ _ hso)))) lb0, lbt, lbc, b0⟩
  clear hlb hso' hia' hw6 hw5 hso hia hw f06 f56 els lls hv5 f5 f1 s6 s14 s4 s3 s2 T4 T5 T1 hq
  refine ⟨fun σ Hx => ∃ (so ia : Addr) (ss ls : List Str) (fs : List Tr) (deep N : Nat) (k7 k8 k9 k10 k11 k12 k13 k14 : Option V), σ = [some (.ref t), some (.int 0), some (.ref wl), some (.ref so), some (.ref ia), some (.int deep), some (.ref lb), k7, k8, k9, k10, k11, k12, k13, k14, none, none, none, none, none, none, none, none] ∧ N ≤ 25 ∧ LpAt H Hx t c (n + 40 + 100 * N) N wl so ia lb ws ss ls fs deep, ?_, ?_⟩
  · refine ⟨_, rfl, _, rfl, t, c, 9, _, rfl, T6, ⟨by decide, by decide⟩, by omega, fun r7 H7 hr7 T7 f7 => ?_⟩
    refine ⟨_, rfl, t, c, 25, _, rfl, T7, ⟨by decide, by decide⟩, by omega, fun r8 H8 hr8 T8 f8 => ?_⟩
    refine ⟨(by show 4 ≤ sizeLine; decide), pick_new T8 (by omega) ⟨by show 1 ≤ 4; decide, by show 4 ≤ 1000; decide⟩ fun v9 H9 hv9 T9 f9 => ?_⟩
    obtain ⟨z9, rfl, h90, h91⟩ : ∃ z : Int, v9 = .int z ∧ 0 ≤ z ∧ z ≤ 24 := by
      simp only [List.mem_cons, List.not_mem_nil, or_false] at hv9
      rcases hv9 with rfl | rfl | rfl | rfl
      · exact ⟨_, rfl, by omega, by omega⟩
      · exact ⟨_, rfl, by decide, by decide⟩
      · exact ⟨_, rfl, by decide, by decide⟩
      · exact ⟨_, rfl, by omega, by omega⟩
    have L9 := (L0.fr T9 (f7.trans (f8.trans f9))).mono (by omega : _ ≤ n + 40 + 100 * 0)
    clear hv9 T9 T8 T7 T6 f7 f8 f9 L0
    refine ⟨_, _, rfl, rfl, _, rfl, (by omega), (by omega), for_range (n := (1 + z9).toNat) (fun i σ Hx => ∃ (so ia : Addr) (ss ls : List Str) (fs : List Tr) (deep : Nat) (k7 k8 k9 k10 k11 k12 k13 k14 : Option V), σ = [some (.ref t), some (.int 0), some (.ref wl), some (.ref so), some (.ref ia), some (.int deep), some (.ref lb), k7, k8, k9, k10, k11, k12, k13, k14, none, none, none, none, none, none, none, none] ∧ LpAt H Hx t c (n + 40 + 100 * i) i wl so ia lb ws ss ls fs deep) ?_ ?_ ?_⟩
    · exact ⟨so, ia, [], ls, [], 1, _, _, _, _, _, _, _, _, rfl, L9⟩
    · clear L9 so0 ia0 q0
      rintro i σ Hx hi ⟨so, ia, ss, ls, fs, deep, k7, k8, k9, k10, k11, k12, k13, k14, rfl, L⟩
      have hi25 : i < 25 := by omega
      refine ⟨_, rfl, _, rfl, t, c, 4, _, rfl, L.T, ⟨by decide, by decide⟩, by omega, fun ra Ha hra Ta fa => ?_⟩
      refine ⟨(by show 1 ≤ sizeLine; decide), ?_⟩
      (intro la la0; generalize hh_ : upd _ la _ = Hb; have hla := upd_is hh_; have sb := same_is hh_ la0; clear hh_)
      refine ⟨la, _, _, rfl, rfl, hla, (by decide), (by decide), (by show 4 ≤ sizeLine; decide), ?_⟩
      (intro la2 la20; generalize hh_ : upd _ la2 _ = Hc; have hla2 := upd_is hh_; have sc := same_is hh_ la20; clear hh_)
      have hla2' : Hc la2 = some (.lst [.int ra, .int ra, .int ra, .int ra]) := hla2
      have Tc := Ta.same (sb.trans sc)
      refine ⟨_, rfl, t, c, 3, _, rfl, Tc, ⟨by decide, by decide⟩, by omega, fun rb Hd hrb Td fd => ?_⟩
      refine ⟨_, _, rfl, rfl, (by show 1 ≤ sizeLine; decide), ?_⟩
      (intro la3 la30; generalize hh_ : upd _ la3 _ = He; have hla3 := upd_is hh_; have se := same_is hh_ la30; clear hh_)
      refine ⟨la2, la3, _, _, rfl, rfl, se _ _ (fd _ _ hla2' (not_in_one (Tc.ne_lst hla2'))), hla3, (by show 5 ≤ sizeLine; decide), pick_new (Td.same se) (by omega) ⟨by show 1 ≤ 5; decide, by show 5 ≤ 1000; decide⟩ fun vm Hf hvm Tf ff => ?_⟩
      obtain ⟨mn, rfl, m0, m6⟩ : ∃ z : Int, vm = .int z ∧ 0 ≤ z ∧ z ≤ 6 := by
        simp only [List.mem_cons, List.not_mem_nil, or_false, List.cons_append, List.nil_append] at hvm
        rcases hvm with rfl | rfl | rfl | rfl | rfl <;> exact ⟨_, rfl, by omega, by omega⟩
      have ffr : Fr [t] Hx Hf := fa.trans ((Fr.same (sb.trans sc) _).trans (fd.trans ((Fr.same se _).trans ff)))
      have L1 := L.fr Tf ffr
      clear ffr Tf ff hvm fd Td Tc hla3 se hla2' hla2 sc hla sb fa Ta
      dsimp only
      generalize hN1 : n + 40 + 100 * i + 1 + 1 + 1 = n1 at L1
      refine ⟨fun σ Hy => ∃ (dd : Addr) (ys : List V) (ls' : List Str), σ = [some (.ref t), some (.int 0), some (.ref wl), some (.ref so), some (.ref ia), some (.int deep), some (.ref lb), some (.int i), some (.int mn), some (.ref dd), k10, k11, k12, k13, k14, none, none, none, none, none, none, none, none] ∧ Hy dd = some (.lst ys) ∧ Wishes Hy ys ∧ ys.length ≤ 6 ∧ ss.length + ys.length + ls'.length ≤ 60 ∧ LpAt H Hy t c (n1 + 30) i wl so ia lb ws ss ls' fs deep, ?_, ?_⟩
      · refine ⟨_, rfl, mn, rfl, by omega, by omega, fun dd hdd => ?_⟩
        have hdd0 : Hf dd = none := hdd
        have ddH : H dd = none := by
          cases e : H dd with
          | none => rfl
          | some o =>
            have := L1.f _ _ e (not_in_one (L1.T.ne_new hdd0))
            rw [hdd0] at this
            cases this
        have e1 := (ne_of_none L1.hw hdd0).symm
        have e2 := (ne_of_none L1.hs hdd0).symm
        have e3 := (ne_of_none L1.hl hdd0).symm
        have e4 := L1.T.ne_new hdd0
        have e5 := L1.T.ne_newc hdd0
        refine lc_range (n := mn.toNat) (fun j Hy => ∃ (ys : List V) (ls' : List Str), Hy dd = some (.lst ys) ∧ Wishes Hy ys ∧ ys.length ≤ j ∧ ss.length + ys.length + ls'.length ≤ 60 ∧ LpAt H Hy t c (n1 + 5 * j) i wl so ia lb ws ss ls' fs deep) ?_ ?_ ?_
        · exact ⟨[], ls, upd_same, (fun _ h => nomatch h), Nat.le_refl _, L1.few, L1.same (same_new hdd0)⟩
        · rintro j Hy hj ⟨ys, ls', y1, y2, y3, y4, y5⟩
          refine ⟨rfl, ?_⟩
          refine ⟨_, rfl, (by show 0 ≤ sizeLine; decide), ?_⟩
          (intro q q0; generalize hh_ : upd _ q _ = Hz; have hq := upd_is hh_; have sz1 := same_is hh_ q0; clear hh_)
          have z5 := y5.same sz1
          have z2 := y2.tp (Tp.same sz1)
          refine ⟨_, _, dp_strL z5.hl, dp_strL (ws := []) hq, plain_strs ls', rfl, (by show min _ (PyData.depthAll _ + 1) ≤ 64; show min (PyData.depthAll _ + 1) (PyData.depthAll [] + 1) ≤ 64; rw [depth_strs]; decide), _, rfl, ?_⟩
          rw [eqv_nil]
          cases hls : ls' with
          | nil =>
            refine iteF ?_
            subst hls
            exact ⟨ys, [], sz1 _ _ y1, z2, by omega, y4, z5.mono (by omega)⟩
          | cons l0 lr =>
            refine iteT ?_
            have pos : 0 < ls'.length := by rw [hls]; simp
            have hlast : (ls'.map V.str)[(ls'.map V.str).length - 1]? = some (.str (ls'[ls'.length - 1]'(by omega))) := by
              rw [List.getElem?_map, List.length_map, List.getElem?_eq_getElem (by omega)]
              rfl
            clear hls
            generalize ls'[ls'.length - 1]'(by omega) = lab at hlast
            have y6 := z5.pop
            have tpp : Tp Hz (upd Hz lb (.lst (ls'.map V.str).dropLast)) := Tp.putL z5.hl
            have y7 : (upd Hz lb (.lst (ls'.map V.str).dropLast)) dd = some (.lst ys) := by rw [upd_ne e3]; exact sz1 _ _ y1
            have y8 := z2.tp tpp
            refine ⟨_, rfl, _, rfl, .inl ⟨rfl, _, SqL.of z5.hl⟩, lb, _, _, rfl, rfl, z5.hl, hlast, _, rfl, ?_⟩
            generalize upd Hz lb (.lst (ls'.map V.str).dropLast) = Hw at *
            refine ⟨t, c, _, lab, rfl, y6.T, by omega, fun v Hv wv Tv fv => ?_⟩
            have y9 := fv _ _ y7 (not_in_one e4)
            have ya := y6.fr Tv fv
            refine ⟨ys, y9, small100 (by omega), ys ++ [v], ls'.dropLast, upd_same, ?_, by rw [List.length_append]; show _ + 1 ≤ _; omega, ?_, ?_⟩
            · exact ((y8.tp (y6.T.tp fv)).snoc wv).tp (Tp.putL y9)
            · rw [List.length_append, List.length_dropLast]
              show ss.length + (ys.length + 1) + (ls'.length - 1) ≤ 60
              omega
            · exact (ya.put y9 e1 e2 e3 e4 e5 ddH).mono (by omega)
        · rintro Hy ⟨ys, ls', y1, y2, y3, y4, y5⟩
          have : ys.length ≤ 6 := by omega
          exact ⟨dd, ys, ls', by rw [Int.zero_add]; rfl, y1, y2, by omega, y4, y5.mono (by omega)⟩
      rintro σ Hy ⟨dd, ys, ls', rfl, y1, y2, y3, y4, y5⟩
      clear L1 Hf la20 la30 la0
      refine ⟨fun σ Hz => ∃ (so' : Addr) (ss' : List Str), σ = [some (.ref t), some (.int 0), some (.ref wl), some (.ref so'), some (.ref ia), some (.int deep), some (.ref lb), some (.int i), some (.int mn), some (.ref dd), k10, k11, k12, k13, k14, none, none, none, none, none, none, none, none] ∧ Hz dd = some (.lst ys) ∧ Wishes Hz ys ∧ LpAt H Hz t c (n1 + 30) i wl so' ia lb ws ss' ls' fs deep, ?_, ?_⟩
      · refine ⟨_, rfl, _, rfl, dd, rfl, ⟨_, SqL.of y1⟩, fun d2 hd2 => ?_⟩
        have hd20 : Hy d2 = none := hd2
        refine lc_list (K := K) (a := dd) (xs := ys) (fun j Hz => ∃ zs : List Str, Hz d2 = some (.lst (zs.map V.str)) ∧ zs.length = j ∧ Same Hy Hz) ?_ ?_ ?_ ?_
        · exact ⟨[], upd_same, rfl, same_new hd20⟩
        · intro j Hz _ ⟨_, _, _, sz⟩
          exact SqL.of (sz _ _ y1)
        · rintro j x Hz hj ⟨zs, z1, z2, z3⟩
          obtain ⟨lab, pw, kw, rw', rfl, hpw⟩ := y2 x (List.mem_of_getElem? hj)
          have lj : j < ys.length := (List.getElem?_eq_some_iff.mp hj).1
          refine ⟨rfl, ?_⟩
          refine ⟨_, rfl, pw, _, 1, .str lab, rfl, rfl, SqT.of (z3 _ _ hpw), atI_nat (j := 1) rfl, zs.map V.str, z1, (by rw [List.length_map]; exact small100 (by omega)), zs ++ [lab], by rw [upd_same, List.map_append]; rfl, by rw [List.length_append, z2]; rfl, ?_⟩
          intro p o e
          rw [upd_ne (fun h => by rw [h, hd20] at e; cases e)]
          exact z3 _ _ e
        · rintro Hz ⟨zs, z1, z2, z3⟩
          have z5 := y5.same z3
          refine ⟨so, d2, _, _, rfl, rfl, z5.hs, z1, sz (by rw [List.length_map, List.length_map]; omega), ?_⟩
          (intro so2 so20; generalize hh_ : upd _ so2 _ = Hw; have hso2 := upd_is hh_; have sw := same_is hh_ so20; clear hh_)
          have w5 := z5.same sw
          refine ⟨so2, ss ++ zs, rfl, sw _ _ (z3 _ _ y1), y2.tp ((Tp.same z3).trans (Tp.same sw)), ?_⟩
          exact { w5 with hs := by rw [hso2, List.map_append], few := by rw [List.length_append]; omega, sb := (ne_of_none z5.hl so20).symm }
      clear y1 y2 y3 y4 y5
      rintro σ Hz ⟨so', ss', rfl, y1, y2, y5⟩
      refine ⟨fun σ Hw => ∃ (mo : Int) (ab : Bool), σ = [some (.ref t), some (.int 0), some (.ref wl), some (.ref so'), some (.ref ia), some (.int deep), some (.ref lb), some (.int i), some (.int mn), some (.ref dd), some (.int mo), some (.bl ab), k12, k13, k14, none, none, none, none, none, none, none, none] ∧ (0 ≤ mo ∧ mo ≤ 10000) ∧ (ab = true → deep < 5) ∧ Hw dd = some (.lst ys) ∧ Wishes Hw ys ∧ LpAt H Hw t c (n1 + 32) i wl so' ia lb ws ss' ls' fs deep, ?_, ?_⟩
      · refine ⟨_, rfl, (by show 4 ≤ sizeLine; decide), pick_new y5.T (by omega) ⟨by show 1 ≤ 4; decide, by show 4 ≤ 1000; decide⟩ fun v Ha hv Ta fa => ?_⟩
        obtain ⟨mo, rfl, hmo⟩ : ∃ z : Int, v = .int z ∧ 0 ≤ z ∧ z ≤ 10000 := by
          simp only [List.mem_cons, List.not_mem_nil, or_false] at hv
          rcases hv with rfl | rfl | rfl | rfl <;> exact ⟨_, rfl, by decide⟩
        have a1 := fa _ _ y1 (not_in_one (y5.T.ne_lst y1))
        have a2 := y2.tp (y5.T.tp fa)
        have a5 := y5.fr Ta fa
        refine ⟨_, rfl, _, _, rfl, rfl, _, rfl, ite2 (fun b => ?_) fun b => ?_⟩
        · have hd5 : (deep : Int) < 5 := of_decide_eq_true b
          refine ⟨_, rfl, t, c, 4, _, rfl, Ta, ⟨by decide, by decide⟩, by omega, fun r Hb hr Tb fb => ?_⟩
          exact ⟨_, _, rfl, rfl, _, _, rfl, mo, _, rfl, hmo, fun _ => by omega, fb _ _ a1 (not_in_one (a5.T.ne_lst a1)), a2.tp (a5.T.tp fb), (a5.fr Tb fb).mono (by omega)⟩
        · exact ⟨_, _, rfl, mo, false, rfl, hmo, (fun z => nomatch z), a1, a2, a5.mono (by omega)⟩
      clear y1 y2 y5
      rintro σ Hw ⟨mo, ab, rfl, hmo, hab, y1, y2, y5⟩
      refine ⟨fun σ Hv => ∃ (lv : V) (sh : Sh), σ = [some (.ref t), some (.int 0), some (.ref wl), some (.ref so'), some (.ref ia), some (.int deep), some (.ref lb), some (.int i), some (.int mn), some (.ref dd), some (.int mo), some (.bl ab), some lv, k13, k14, none, none, none, none, none, none, none, none] ∧ ShAt Hv lv sh ∧ Hv dd = some (.lst ys) ∧ Wishes Hv ys ∧ LpAt H Hv t c (n1 + 33) i wl so' ia lb ws ss' ls' fs deep, ?_, ?_⟩
      · refine ⟨_, rfl, _, rfl, _, _, rfl, rfl, (by show 3 ≤ sizeLine; decide), ?_⟩
        (intro p1 p10; generalize hh_ : upd _ p1 _ = Ha; have hp1 := upd_is hh_; have sa := same_is hh_ p10; clear hh_)
        refine ⟨_, rfl, _, rfl, (by show 3 ≤ sizeLine; decide), ?_⟩
        (intro p2 p20; generalize hh_ : upd _ p2 _ = Hb; have hp2 := upd_is hh_; have sb := same_is hh_ p20; clear hh_)
        have b5 := y5.same (sa.trans sb)
        refine ⟨(by show 3 ≤ sizeLine; decide), pick_new b5.T (by omega) ⟨by show 1 ≤ 3; decide, by show 3 ≤ 1000; decide⟩ fun v Hc hv Tc fc => ?_⟩
        have tpc := b5.T.tp fc
        have c1 := fc _ _ ((sa.trans sb) _ _ y1) (not_in_one (b5.T.ne_lst ((sa.trans sb) _ _ y1)))
        have c2 := y2.tp ((Tp.same (sa.trans sb)).trans tpc)
        have c5 := (b5.fr Tc fc).mono (by omega : _ ≤ n1 + 33)
        simp only [List.mem_cons, List.not_mem_nil, or_false] at hv
        rcases hv with rfl | rfl | rfl
        · exact ⟨_, none, rfl, rfl, c1, c2, c5⟩
        · exact ⟨_, some (true, 0 - mo, 40), rfl, ⟨⟨p1, rfl, tpc _ _ (sb _ _ hp1)⟩, ⟨by omega, by omega⟩, by decide⟩, c1, c2, c5⟩
        · exact ⟨_, some (false, -30, mo), rfl, ⟨⟨p2, rfl, tpc _ _ hp2⟩, by decide, hmo⟩, c1, c2, c5⟩
      clear y1 y2 y5
      rintro σ Hv ⟨lv, sh, rfl, hsh, y1, y2, y5⟩
      refine ⟨(by show 4 ≤ sizeLine; decide), ?_⟩
      (intro tt tt0; generalize hh_ : upd _ tt _ = Ha; have htt := upd_is hh_; have sa := same_is hh_ tt0; clear hh_)
      have a5 := y5.same sa
      have a1 := sa _ _ y1
      refine ⟨tt, rfl, ⟨_, SqT.of htt⟩, fun d3 hd3 => ?_⟩
      have d30 : Ha d3 = none := hd3
      have e1 := (ne_of_none a5.hw d30).symm
      have e2 := (ne_of_none a5.hs d30).symm
      have e3 := (ne_of_none a5.hl d30).symm
      have e4 := a5.T.ne_new d30
      have e5 := a5.T.ne_newc d30
      have e6 := (ne_of_none a1 d30).symm
      have d3H : H d3 = none := by
        cases e : H d3 with
        | none => rfl
        | some o =>
          have := a5.f _ _ e (not_in_one e4)
          rw [d30] at this
          cases this
      refine lc_tup (K := K) (a := tt) (xs := [.int 41, .int 41, .int 200, .int 200]) (fun j Hy => ∃ zs : List Int, Hy d3 = some (.lst (zs.map V.int)) ∧ zs.length = j ∧ Hy dd = some (.lst ys) ∧ Wishes Hy ys ∧ ShAt Hy lv sh ∧ Tp Ha Hy ∧ LpAt H Hy t c (n1 + 33 + j) i wl so' ia lb ws ss' ls' fs deep) ?_ ?_ ?_ ?_
      · have s1 := same_new (o := .lst []) d30
        exact ⟨[], upd_same, rfl, s1 _ _ a1, y2.tp ((Tp.same sa).trans (Tp.same s1)), hsh.tp ((Tp.same sa).trans (Tp.same s1)), Tp.same s1, a5.same s1⟩
      · intro j Hy _ ⟨_, _, _, _, _, _, tz, _⟩
        exact SqT.of (tz _ _ htt)
      · rintro j x Hy hj ⟨zs, z1, z2, z3, z4, z6, tz, z5⟩
        obtain ⟨side, rfl, sd1, sd2⟩ : ∃ z : Int, x = .int z ∧ 1 ≤ z ∧ z ≤ 1000000 := by
          have := List.mem_of_getElem? hj
          simp only [List.mem_cons, List.not_mem_nil, or_false] at this
          rcases this with rfl | rfl | rfl | rfl <;> exact ⟨_, rfl, by decide, by decide⟩
        have lj : j < 4 := (List.getElem?_eq_some_iff.mp hj).1
        refine ⟨rfl, ?_⟩
        refine ⟨_, rfl, _, rfl, t, c, side, _, rfl, z5.T, ⟨sd1, sd2⟩, by omega, fun r Hb hr Tb fb => ?_⟩
        have tpb := z5.T.tp fb
        have b1 := fb _ _ z1 (not_in_one e4)
        have b5 := z5.fr Tb fb
        have tpp : Tp Hb (upd Hb d3 (.lst (zs.map V.int ++ [V.int r]))) := Tp.putL b1
        refine ⟨zs.map V.int, b1, (by rw [List.length_map]; exact small100 (by omega)), zs ++ [r], by rw [upd_same, List.map_append]; rfl, by rw [List.length_append, z2]; rfl, by rw [upd_ne e6.symm]; exact fb _ _ z3 (not_in_one (z5.T.ne_lst z3)), z4.tp (tpb.trans tpp), z6.tp (tpb.trans tpp), tz.trans (tpb.trans tpp), (b5.put b1 e1 e2 e3 e4 e5 d3H).mono (by omega)⟩
      clear y1 y2 y5 hsh a5 a1 sa
      rintro Hy ⟨zs, z1, z2, z3, z4, z6, tz, z5⟩
      obtain ⟨b0, b1, b2, b3, rfl⟩ : ∃ a b c d, zs = [a, b, c, d] := by
        match zs, z2 with
        | [a, b, c, d], _ => exact ⟨a, b, c, d, rfl⟩
      refine ⟨fun σ Hb => ∃ (bx : V), σ = [some (.ref t), some (.int 0), some (.ref wl), some (.ref so'), some (.ref ia), some (.int deep), some (.ref lb), some (.int i), some (.int mn), some (.ref dd), some (.int mo), some (.bl ab), some lv, some bx, k14, none, none, none, none, none, none, none, none] ∧ ShAt Hb lv sh ∧ Hb dd = some (.lst ys) ∧ Wishes Hb ys ∧ LpAt H Hb t c (n1 + 37) i wl so' ia lb ws ss' ls' fs deep, ?_, ?_⟩
      · refine ⟨_, rfl, d3, _, 0, _, rfl, rfl, SqL.of z1, atI_nat (j := 0) rfl, _, _, rfl, rfl, _, rfl, d3, _, 1, _, rfl, rfl, SqL.of z1, atI_nat (j := 1) rfl, _, _, rfl, rfl, _, rfl, d3, _, 2, _, rfl, rfl, SqL.of z1, atI_nat (j := 2) rfl, _, _, rfl, rfl, _, rfl, _, _, rfl, rfl, .inl ⟨by decide, by decide⟩, _, _, rfl, rfl, _, rfl, d3, _, 3, _, rfl, rfl, SqL.of z1, atI_nat (j := 3) rfl, _, _, rfl, rfl, _, rfl, _, _, rfl, rfl, .inl ⟨by decide, by decide⟩, _, _, rfl, rfl, (by show 4 ≤ sizeLine; decide), ?_⟩
        (intro bx bx0; generalize hh_ : upd _ bx _ = Hb; have hbx := upd_is hh_; have sb := same_is hh_ bx0; clear hh_)
        exact ⟨_, rfl, z6.tp (Tp.same sb), sb _ _ z3, z4.tp (Tp.same sb), z5.same sb⟩
      clear z1 z2 z3 z4 z5 z6 tz
      rintro σ Hb ⟨bx, rfl, hsh, y1, y2, y5⟩
      have hnm : (ws.map V.str)[i]? = some (.str (ws[i]'(by omega))) := by
        rw [List.getElem?_map, List.getElem?_eq_getElem (by omega)]
        rfl
      generalize hwi : ws[i]'(by omega) = nm at hnm
      refine ⟨fun σ Hc => ∃ (pa wt : Addr) (ear : V), σ = [some (.ref t), some (.int 0), some (.ref wl), some (.ref so'), some (.ref ia), some (.int deep), some (.ref lb), some (.int i), some (.int mn), some (.ref dd), some (.int mo), some (.bl ab), some lv, some bx, some (.ref pa), none, none, none, none, none, none, none, none] ∧ ShAt Hc lv sh ∧ Hc pa = some (.tup [.str nm, bx, ear, lv, .ref wt]) ∧ LpAt H Hc t c (n1 + 38) i wl so' ia lb ws ss' ls' fs deep, ?_, ?_⟩
      · refine ⟨_, rfl, _, rfl, wl, _, _, _, rfl, rfl, SqL.of y5.hw, atI_nat hnm, _, rfl, ?_⟩
        refine ⟨_, rfl, (by show 3 ≤ sizeLine; decide), pick_new y5.T (by omega) ⟨by show 1 ≤ 3; decide, by show 3 ≤ 1000; decide⟩ fun v Hc hv Tc fc => ?_⟩
        have c1 := fc _ _ y1 (not_in_one (y5.T.ne_lst y1))
        have c5 := y5.fr Tc fc
        have c6 := hsh.tp (y5.T.tp fc)
        refine ⟨_, rfl, _, rfl, .inl ⟨dd, _, rfl, SqL.of c1, ?_⟩⟩
        (intro wt wt0; generalize hh_ : upd _ wt _ = Hd; have hwt := upd_is hh_; have sd := same_is hh_ wt0; clear hh_)
        refine ⟨(by show 5 ≤ sizeLine; decide), ?_⟩
        (intro pa pa0; generalize hh_ : upd _ pa _ = He; have hpa := upd_is hh_; have se := same_is hh_ pa0; clear hh_)
        exact ⟨pa, wt, v, rfl, c6.tp (Tp.same (sd.trans se)), hpa, c5.same (sd.trans se)⟩
      clear y1 y2 y5
      rintro σ Hc ⟨pa, wt', ear, rfl, hsh, hpa, y5⟩
      have LS : ∀ (Hz : Hp) (ia2 : Addr) (deep2 : Nat) (fs2 : List Tr), Same Hc Hz → Hz ia2 = some (.tup (fs2.map fun k => V.ref k.a)) → (∀ p ∈ fs2, PtAt Hz deep2 p) → 1 ≤ deep2 → deep2 ≤ 5 → (∀ x, x ∈ nmsT fs2 ↔ x = nm ∨ x ∈ nmsT fs) → (nmsT fs2).length = i + 1 → (nmsT fs2).Nodup → LpAt H Hz t c (n + 40 + 100 * (i + 1)) (i + 1) wl so' ia2 lb ws ss' ls' fs2 deep2 := fun Hz ia2 deep2 fs2 sz g1 g2 g3 g4 g5 g6 g7 => by
        have gn : ∀ x ∈ nmsT fs2, x ∈ ws.take (i + 1) := fun x hx => by
          rw [List.take_succ_eq_append_getElem (by omega), hwi]
          rcases (g5 x).mp hx with rfl | hx
          · exact List.mem_append_right _ List.mem_cons_self
          · exact List.mem_append_left _ (y5.nin x hx)
        exact { (y5.same sz).mono (by omega : _ ≤ n + 40 + 100 * (i + 1)) with hi := g1, pt := g2, d1 := g3, d5 := g4, nd := g7, nl := g6, nin := gn }
      have nmf : nm ∉ nmsT fs := fun hx => by
        have h1 := y5.nin nm hx
        have sp : ws.take 26 = ws.take i ++ nm :: (ws.take 26).drop (i + 1) := by
          have h2 : i < (ws.take 26).length := by rw [List.length_take]; omega
          have h3 : (ws.take 26)[i] = nm := by rw [List.getElem_take]; exact hwi
          have h4 : (ws.take 26).take i = ws.take i := by rw [List.take_take, Nat.min_eq_left (by omega)]
          rw [← h4, ← h3, ← List.drop_eq_getElem_cons h2, List.take_append_drop]
        rw [sp, List.nodup_append] at wn
        exact wn.2.2 nm h1 nm List.mem_cons_self rfl
      cases ab with
      | true =>
        refine ⟨_, rfl, _, rfl, iteT ?_⟩
        refine ⟨_, rfl, _, rfl, (by show 1 ≤ sizeLine; decide), ?_⟩
        (intro t1 t10; generalize hh_ : upd _ t1 _ = Hd; have ht1 := upd_is hh_; have sd := same_is hh_ t10; clear hh_)
        refine ⟨pa, t1, _, _, rfl, rfl, SqT.of (sd _ _ hpa), SqT.of ht1, (by show 6 ≤ sizeLine; decide), (fun z => nomatch z), (fun _ z => nomatch z), fun _ _ => ?_⟩
        (intro t2 t20; generalize hh_ : upd _ t2 _ = He; have ht2 := upd_is hh_; have se := same_is hh_ t20; clear hh_)
        refine ⟨(by show 1 ≤ sizeLine; decide), ?_⟩
        (intro t3 t30; generalize hh_ : upd _ t3 _ = Hg; have ht3 := upd_is hh_; have sg := same_is hh_ t30; clear hh_)
        have s3 := sd.trans (se.trans sg)
        have hd5 := hab rfl
        refine ⟨_, rfl, _, rfl, .inr ⟨true, rfl, _, _, rfl, rfl, so', t3, ss', ls', [.mk t2 nm sh fs], deep + 1, _, _, _, _, _, _, _, _, rfl, ?_⟩⟩
        refine LS Hg t3 (deep + 1) [.mk t2 nm sh fs] s3 ht3 ?_ (by omega) (by omega) ?_ ?_ ?_
        · intro p hp
          rw [List.mem_singleton.mp hp]
          exact ⟨wt', ia, bx, ear, lv, sg _ _ ht2, hsh.tp (Tp.same s3), s3 _ _ y5.hi, fun k hk => (y5.pt k hk).tp (Tp.same s3)⟩
        · intro x
          show x ∈ (nm :: nmsT fs) ++ [] ↔ _
          rw [List.append_nil, List.mem_cons]
        · show ((nm :: nmsT fs) ++ []).length = _
          rw [List.append_nil, List.length_cons, y5.nl]
        · show ((nm :: nmsT fs) ++ []).Nodup
          rw [List.append_nil, List.nodup_cons]
          exact ⟨nmf, y5.nd⟩
      | false =>
        refine ⟨_, rfl, _, rfl, iteF ?_⟩
        refine ⟨_, rfl, _, rfl, (by show 0 ≤ sizeLine; decide), ?_⟩
        (intro t0 t00; generalize hh_ : upd _ t0 _ = Hd; have ht0 := upd_is hh_; have sd := same_is hh_ t00; clear hh_)
        refine ⟨(by show 1 ≤ sizeLine; decide), ?_⟩
        (intro t1 t10; generalize hh_ : upd _ t1 _ = He; have ht1 := upd_is hh_; have se := same_is hh_ t10; clear hh_)
        refine ⟨pa, t1, _, _, rfl, rfl, SqT.of ((sd.trans se) _ _ hpa), SqT.of ht1, (by show 6 ≤ sizeLine; decide), (fun z => nomatch z), (fun _ z => nomatch z), fun _ _ => ?_⟩
        (intro t2 t20; generalize hh_ : upd _ t2 _ = Hf; have ht2 := upd_is hh_; have sf := same_is hh_ t20; clear hh_)
        refine ⟨(by show 1 ≤ sizeLine; decide), ?_⟩
        (intro t3 t30; generalize hh_ : upd _ t3 _ = Hg; have ht3 := upd_is hh_; have sg := same_is hh_ t30; clear hh_)
        have s3 := sd.trans (se.trans (sf.trans sg))
        have fin : ∀ (Hz : Hp) (ia2 : Addr), Same Hg Hz → Hz ia2 = some (.tup ((fs ++ [Tr.mk t2 nm sh []]).map fun k => V.ref k.a)) → LpAt H Hz t c (n + 40 + 100 * (i + 1)) (i + 1) wl so' ia2 lb ws ss' ls' (fs ++ [Tr.mk t2 nm sh []]) deep := fun Hz ia2 sz hz => by
          refine LS Hz ia2 deep _ (s3.trans sz) hz ?_ y5.d1 y5.d5 ?_ ?_ ?_
          · intro p hp
            rcases List.mem_append.mp hp with hp | hp
            · exact (y5.pt p hp).tp (Tp.same (s3.trans sz))
            · rw [List.mem_singleton.mp hp]
              have d1 := y5.d1
              obtain ⟨d', rfl⟩ : ∃ d', deep = d' + 1 := ⟨deep - 1, by omega⟩
              exact ⟨wt', t0, bx, ear, lv, (sg.trans sz) _ _ ht2, hsh.tp (Tp.same (s3.trans sz)), (se.trans (sf.trans (sg.trans sz))) _ _ ht0, fun k hk => nomatch hk⟩
          · intro x
            rw [nmsT_app, List.mem_append]
            show x ∈ nmsT fs ∨ x ∈ [nm] ++ [] ↔ _
            rw [List.append_nil, List.mem_singleton, or_comm]
          · rw [nmsT_app, List.length_append, y5.nl]
            rfl
          · rw [nmsT_app, List.nodup_append]
            refine ⟨y5.nd, by show ([nm] ++ []).Nodup; rw [List.append_nil]; simp, fun a ha b hb e => ?_⟩
            have : b = nm := by
              have hb' : b ∈ [nm] ++ [] := hb
              rw [List.append_nil] at hb'
              exact List.mem_singleton.mp hb'
            rw [e, this] at ha
            exact nmf ha
        refine ⟨ia, t3, _, _, rfl, rfl, SqT.of (s3 _ _ y5.hi), SqT.of ht3, sz (by rw [List.length_map]; have := y5.nl; have := lenT fs; show fs.length + 1 ≤ 100000; omega), fun z => ?_, (fun _ z => nomatch z), fun _ _ => ?_⟩
        · have e : fs = [] := List.map_eq_nil_iff.mp z
          refine ⟨_, rfl, _, rfl, .inr ⟨false, rfl, _, _, rfl, rfl, so', t3, ss', ls', fs ++ [Tr.mk t2 nm sh []], deep, _, _, _, _, _, _, _, _, rfl, ?_⟩⟩
          exact fin Hg t3 (Same.refl _) (by rw [e]; exact ht3)
        · (intro t4 t40; generalize hh_ : upd _ t4 _ = Hh; have ht4 := upd_is hh_; have sh4 := same_is hh_ t40; clear hh_)
          refine ⟨_, rfl, _, rfl, .inr ⟨false, rfl, _, _, rfl, rfl, so', t4, ss', ls', fs ++ [Tr.mk t2 nm sh []], deep, _, _, _, _, _, _, _, _, rfl, ?_⟩⟩
          exact fin Hh t4 sh4 (by rw [ht4, List.map_append]; rfl)
    · rintro σ Hx ⟨so, ia, ss, ls, fs, deep, k7, k8, k9, k10, k11, k12, k13, k14, rfl, L⟩
      exact ⟨so, ia, ss, ls, fs, deep, _, _, _, _, _, _, _, _, _, rfl, by omega, L⟩
  rintro σ Hx ⟨so, ia, ss, ls, fs, deep, N, k7, k8, k9, k10, k11, k12, k13, k14, rfl, hN, L⟩
  have ss60 : ss.length ≤ 60 := by have := L.few; omega
  refine ⟨fun σ Hy => ∃ (so2 : Addr) (zs : List Str), σ = [some (.ref t), some (.int 0), some (.ref wl), some (.ref so2), some (.ref ia), some (.int deep), some (.ref lb), k7, k8, k9, k10, k11, k12, k13, k14, none, none, none, none, none, none, none, none] ∧ Hy so2 = some (.lst (zs.map V.str)) ∧ zs.length ≤ 120 ∧ LpAt H Hy t c (n + 2540) N wl so ia lb ws ss ls fs deep, ?_, ?_⟩
  · refine ⟨_, rfl, so, _, rfl, SqL.of L.hs, fun a1 ys1 a10 y1m y1l => ?_⟩
    obtain ⟨zs1, rfl⟩ := strs_of y1m
    have s1 := same_new (o := .lst (zs1.map V.str)) a10
    have h1 : (upd Hx a1 (.lst (zs1.map V.str))) a1 = some (.lst (zs1.map V.str)) := upd_same
    generalize upd Hx a1 (.lst (zs1.map V.str)) = Ha at *
    rw [List.length_map, List.length_map] at y1l
    refine ⟨a1, zs1, rfl, SqL.of h1, by omega, fun ys2 p2 perm _ p20 => ?_⟩
    have s2 := same_new (o := .lst (ys2.map V.str)) p20
    have h2 : (upd Ha p2 (.lst (ys2.map V.str))) p2 = some (.lst (ys2.map V.str)) := upd_same
    generalize upd Ha p2 (.lst (ys2.map V.str)) = Hb at *
    have L2 := L.same (s1.trans s2)
    refine ⟨_, rfl, _, rfl, so, _, rfl, SqL.of L2.hs, fun a3 ys3 a30 y3m y3l => ?_⟩
    obtain ⟨zs3, rfl⟩ := strs_of y3m
    have s3 := same_new (o := .lst (zs3.map V.str)) a30
    have h3 : (upd Hb a3 (.lst (zs3.map V.str))) a3 = some (.lst (zs3.map V.str)) := upd_same
    generalize upd Hb a3 (.lst (zs3.map V.str)) = Hc at *
    rw [List.length_map, List.length_map] at y3l
    have pl := perm.length_eq
    refine ⟨p2, a3, _, _, rfl, rfl, s3 _ _ h2, h3, sz (by rw [List.length_map, List.length_map]; omega), ?_⟩
    (intro so2 so20; generalize hh_ : upd _ so2 _ = Hd; have hso2 := upd_is hh_; have sd := same_is hh_ so20; clear hh_)
    exact ⟨so2, ys2 ++ zs3, rfl, by rw [hso2, List.map_append], by rw [List.length_append]; omega, ((L2.same (s3.trans sd))).mono (by omega)⟩
  clear L
  rintro σ Hy ⟨so2, zs, rfl, hso2, lz, L⟩
  refine ⟨fun σ Hz => ∃ (pl : Addr) (ps : List V) (k7' : Option V), σ = [some (.ref t), some (.int 0), some (.ref wl), some (.ref so2), some (.ref ia), some (.int deep), some (.ref lb), k7', k8, k9, k10, k11, k12, k13, k14, some (.ref pl), none, none, none, none, none, none, none] ∧ Hz pl = some (.lst ps) ∧ ps.length ≤ 3120 ∧ Pairs Hz ps ∧ LpAt H Hz t c (n + 2540) N wl so ia lb ws ss ls fs deep, ?_, ?_⟩
  · refine ⟨_, rfl, so2, _, rfl, .inl (SqL.of hso2), ?_⟩
    rw [List.length_map]
    refine ⟨_, _, rfl, rfl, .inl ⟨by decide, by decide⟩, _, rfl, by omega, by omega, fun dd hdd => ?_⟩
    have dd0 : Hy dd = none := hdd
    refine lc_range (n := (26 * (zs.length : Int)).toNat) (fun j Hz => ∃ ps : List V, Hz dd = some (.lst ps) ∧ ps.length ≤ j ∧ Pairs Hz ps ∧ Same Hy Hz) ?_ ?_ ?_
    · exact ⟨[], upd_same, Nat.le_refl _, (fun _ h => nomatch h), same_new dd0⟩
    · rintro j Hz hj ⟨ps, x1, x2, x3, x4⟩
      have jl : j < 26 * zs.length := by omega
      refine ⟨rfl, ?_⟩
      refine ⟨_, rfl, _, _, rfl, rfl, (by show (0 : Int) < 26; decide), _, rfl, _, _, rfl, rfl, ⟨by decide, by decide⟩, _, _, rfl, rfl, _, rfl, ?_⟩
      refine ite2 (fun b => ?_) fun b => ⟨ps, x1, by omega, x3, x4⟩
      have b' : (0 + (j : Int)) % 26 < (0 + (j : Int)) / 26 := of_decide_eq_true b
      have lm : (zs.map V.str).length = zs.length := List.length_map _
      obtain ⟨v1, _, q1⟩ := at_in (xs := zs.map V.str) (i := (0 + (j : Int)) % 26) (by omega) (by rw [lm]; omega)
      obtain ⟨v2, _, q2⟩ := at_in (xs := zs.map V.str) (i := (0 + (j : Int)) / 26) (by omega) (by rw [lm]; omega)
      refine ⟨_, rfl, _, rfl, _, _, rfl, rfl, (by show (0 : Int) < 26; decide), so2, _, _, v1, rfl, rfl, SqL.of (x4 _ _ hso2), q1, ?_⟩
      refine ⟨_, rfl, _, rfl, _, _, rfl, rfl, ⟨by decide, by decide⟩, so2, _, _, v2, rfl, rfl, SqL.of (x4 _ _ hso2), q2, (by show 2 ≤ sizeLine; decide), ?_⟩
      (intro pp pp0; generalize hh_ : upd _ pp _ = Hw; have hpp := upd_is hh_; have sw := same_is hh_ pp0; clear hh_)
      refine ⟨ps, sw _ _ x1, Nat.lt_of_le_of_lt (by omega : ps.length ≤ 3120) (by decide), ps ++ [.ref pp], upd_same, by rw [List.length_append]; show _ + 1 ≤ _; omega, ?_, ?_⟩
      · intro y hy
        rcases List.mem_append.mp hy with hy | hy
        · obtain ⟨p, a, b, e, h⟩ := x3 y hy
          exact ⟨p, a, b, e, (Tp.putL (sw _ _ x1)) _ _ (sw _ _ h)⟩
        · rw [List.mem_singleton.mp hy]
          exact ⟨pp, v1, v2, rfl, (Tp.putL (sw _ _ x1)) _ _ hpp⟩
      · intro p o e
        rw [upd_ne (fun h => by rw [h, dd0] at e; cases e)]
        exact sw _ _ (x4 _ _ e)
    · rintro Hz ⟨ps, x1, x2, x3, x4⟩
      exact ⟨dd, ps, _, rfl, x1, by omega, x3, L.same x4⟩
  clear L hso2
  rintro σ Hz ⟨pl, ps, k7', rfl, hpl, lps, hps, L⟩
  refine ⟨fun σ Hw => ∃ (sl : Addr) (a b : Int) (k7' : Option V), σ = [some (.ref t), some (.int 0), some (.ref wl), some (.ref so2), some (.ref ia), some (.int deep), some (.ref lb), k7', k8, k9, k10, k11, k12, k13, k14, some (.ref pl), some (.ref sl), none, none, none, none, none, none] ∧ Hw sl = some (.lst [.int a, .int b]) ∧ (1 ≤ a ∧ a ≤ 1000) ∧ (1 ≤ b ∧ b ≤ 1000) ∧ Hw pl = some (.lst ps) ∧ Pairs Hw ps ∧ LpAt H Hw t c (n + 2544) N wl so ia lb ws ss ls fs deep, ?_, ?_⟩
  · refine ⟨2, rfl, by decide, by decide, fun dd hdd => ?_⟩
    have dd0 : Hz dd = none := hdd
    have e4 := L.T.ne_new dd0
    have ddp := (ne_of_none hpl dd0).symm
    have s0 := same_new (o := .lst []) dd0
    refine lc_range (n := 2) (fun j Hw => ∃ (zs : List Int) (m : Nat), Hw dd = some (.lst (zs.map V.int)) ∧ zs.length = j ∧ (∀ z ∈ zs, 1 ≤ z ∧ z ≤ 1000) ∧ m ≤ n + 2540 + 2 * j ∧ TapeAt Hw t c m ∧ Hw pl = some (.lst ps) ∧ Tp Hz Hw ∧ Fr [t] Hz Hw) ?_ ?_ ?_
    · exact ⟨[], n + 2540, upd_same, rfl, (fun _ h => nomatch h), by omega, L.T.same s0, s0 _ _ hpl, Tp.same s0, Fr.same s0 _⟩
    · rintro j Hw hj ⟨zs, m, x1, x2, x3, x4, x5, x6, x7, x8⟩
      refine ⟨rfl, ?_⟩
      refine ⟨_, rfl, _, rfl, t, c, 4, m, rfl, x5, ⟨by decide, by decide⟩, by omega, fun r Ha hr' Ta fa => ?_⟩
      refine ⟨_, _, rfl, rfl, (by show 2 ≤ sizeLine; decide), pick_new Ta (by omega) ⟨by show 1 ≤ 2; decide, by show 2 ≤ 1000; decide⟩ fun v Hb hv Tb fb => ?_⟩
      obtain ⟨z, rfl, zz⟩ : ∃ z : Int, v = .int z ∧ 1 ≤ z ∧ z ≤ 1000 := by
        simp only [List.mem_cons, List.not_mem_nil, or_false] at hv
        rcases hv with rfl | rfl
        · exact ⟨_, rfl, by decide, by decide⟩
        · exact ⟨_, rfl, by omega, by omega⟩
      have fab := fa.trans fb
      have b1 := fab _ _ x1 (not_in_one e4)
      have tpp : Tp Hb (upd Hb dd (.lst (zs.map V.int ++ [V.int z]))) := Tp.putL b1
      refine ⟨zs.map V.int, b1, (by rw [List.length_map]; exact small100 (by omega)), zs ++ [z], m + 1 + 1, by rw [upd_same, List.map_append]; rfl, by rw [List.length_append, x2]; rfl, ?_, by omega, Tb.put e4 (L.T.ne_newc dd0), by rw [upd_ne ddp.symm]; exact fab _ _ x6 (not_in_one (x5.ne_lst x6)), x7.trans ((x5.tp fab).trans tpp), ?_⟩
      · intro y hy
        rcases List.mem_append.mp hy with hy | hy
        · exact x3 y hy
        · rw [List.mem_singleton.mp hy]; exact zz
      · exact Fr.freshU (x8.trans fab) dd0
    · rintro Hw ⟨zs, m, x1, x2, x3, x4, x5, x6, x7, x8⟩
      obtain ⟨a, b, rfl⟩ : ∃ a b, zs = [a, b] := by
        match zs, x2 with
        | [a, b], _ => exact ⟨a, b, rfl⟩
      exact ⟨dd, a, b, _, rfl, x1, x3 a (by simp), x3 b (by simp), x6, hps.tp x7, (L.fr x5 x8).mono (by omega)⟩
  clear L hpl hps
  rintro σ Hw ⟨sl, a, b, k7', rfl, hsl, ha, hb, hpl, hps, L⟩
  refine ⟨fun σ Hv => ∃ (be : V), σ = [some (.ref t), some (.int 0), some (.ref wl), some (.ref so2), some (.ref ia), some (.int deep), some (.ref lb), k7', k8, k9, k10, k11, k12, k13, k14, some (.ref pl), some (.ref sl), some be, none, none, none, none, none] ∧ Hv sl = some (.lst [.int a, .int b]) ∧ Hv pl = some (.lst ps) ∧ Pairs Hv ps ∧ LpAt H Hv t c (n + 5664) N wl so ia lb ws ss ls fs deep, ?_, ?_⟩
  · refine ⟨_, rfl, pl, rfl, ⟨_, SqL.of hpl⟩, fun dd hdd => ?_⟩
    have dd0 : Hw dd = none := hdd
    have e4 := L.T.ne_new dd0
    have ddp := (ne_of_none hpl dd0).symm
    have dds := (ne_of_none hsl dd0).symm
    have s0 := same_new (o := .lst []) dd0
    refine lc_list (K := K) (a := pl) (xs := ps) (fun j Hv => ∃ (zs : List V), Hv dd = some (.lst zs) ∧ zs.length ≤ j ∧ TapeAt Hv t c (n + 2544 + j) ∧ Hv pl = some (.lst ps) ∧ Hv sl = some (.lst [.int a, .int b]) ∧ Tp Hw Hv ∧ Fr [t] Hw Hv) ?_ ?_ ?_ ?_
    · exact ⟨[], upd_same, Nat.le_refl _, L.T.same s0, s0 _ _ hpl, s0 _ _ hsl, Tp.same s0, Fr.same s0 _⟩
    · intro j Hv _ ⟨_, _, _, _, h, _⟩
      exact SqL.of h
    · rintro j x Hv hj ⟨zs, x1, x2, x3, x4, x5, x6, x7⟩
      have lj : j < ps.length := (List.getElem?_eq_some_iff.mp hj).1
      refine ⟨rfl, ?_⟩
      refine ⟨_, rfl, _, rfl, sl, _, 0, _, rfl, rfl, SqL.of x5, atI_nat (j := 0) rfl, t, c, a, _, rfl, x3, ⟨ha.1, by omega⟩, by omega, fun r Ha hr' Ta fa => ?_⟩
      have b1 := fa _ _ x1 (not_in_one e4)
      have b2 := fa _ _ x4 (not_in_one (x3.ne_lst x4))
      have b3 := fa _ _ x5 (not_in_one (x3.ne_lst x5))
      have b4 := x6.trans (x3.tp fa)
      have b5 := x7.trans fa
      refine ⟨rfl, _, rfl, ite2 (fun _ => ?_) fun _ => ⟨zs, b1, by omega, Ta, b2, b3, b4, b5⟩⟩
      have tpp : Tp Ha (upd Ha dd (.lst (zs ++ [x]))) := Tp.putL b1
      exact ⟨_, rfl, zs, b1, Nat.lt_of_le_of_lt (by omega : zs.length ≤ 3120) (by decide), zs ++ [x], upd_same, by rw [List.length_append]; show _ + 1 ≤ _; omega, Ta.put e4 (L.T.ne_newc dd0), by rw [upd_ne ddp.symm]; exact b2, by rw [upd_ne dds.symm]; exact b3, b4.trans tpp, Fr.freshU b5 dd0⟩
    · rintro Hv ⟨zs, x1, x2, x3, x4, x5, x6, x7⟩
      refine .inl ⟨dd, _, rfl, SqL.of x1, ?_⟩
      (intro q q0; generalize hh_ : upd _ q _ = Hu; have hq := upd_is hh_; have su := same_is hh_ q0; clear hh_)
      exact ⟨_, rfl, su _ _ x5, su _ _ x4, hps.tp (x6.trans (Tp.same su)), ((L.fr x3 x7).same su).mono (by omega)⟩
  clear L hpl hps hsl
  rintro σ Hv ⟨be, rfl, hsl, hpl, hps, L⟩
  refine ⟨fun σ Hw => ∃ (he : V), σ = [some (.ref t), some (.int 0), some (.ref wl), some (.ref so2), some (.ref ia), some (.int deep), some (.ref lb), k7', k8, k9, k10, k11, k12, k13, k14, some (.ref pl), some (.ref sl), some be, some he, none, none, none, none] ∧ LpAt H Hw t c (n + 8784) N wl so ia lb ws ss ls fs deep, ?_, ?_⟩
  · refine ⟨_, rfl, pl, rfl, ⟨_, SqL.of hpl⟩, fun dd hdd => ?_⟩
    have dd0 : Hv dd = none := hdd
    have e4 := L.T.ne_new dd0
    have ddp := (ne_of_none hpl dd0).symm
    have dds := (ne_of_none hsl dd0).symm
    have s0 := same_new (o := .lst []) dd0
    refine lc_list (K := K) (a := pl) (xs := ps) (fun j Hw => ∃ (zs : List V), Hw dd = some (.lst zs) ∧ zs.length ≤ j ∧ TapeAt Hw t c (n + 5664 + j) ∧ Hw pl = some (.lst ps) ∧ Hw sl = some (.lst [.int a, .int b]) ∧ Tp Hv Hw ∧ Fr [t] Hv Hw) ?_ ?_ ?_ ?_
    · exact ⟨[], upd_same, Nat.le_refl _, L.T.same s0, s0 _ _ hpl, s0 _ _ hsl, Tp.same s0, Fr.same s0 _⟩
    · intro j Hw _ ⟨_, _, _, _, h, _⟩
      exact SqL.of h
    · rintro j x Hw hj ⟨zs, x1, x2, x3, x4, x5, x6, x7⟩
      have lj : j < ps.length := (List.getElem?_eq_some_iff.mp hj).1
      obtain ⟨pp, u1, u2, rfl, hpp⟩ := hps x (List.mem_of_getElem? hj)
      refine ⟨rfl, ?_⟩
      refine ⟨_, rfl, _, rfl, sl, _, 1, _, rfl, rfl, SqL.of x5, atI_nat (j := 1) rfl, t, c, b, _, rfl, x3, ⟨hb.1, by omega⟩, by omega, fun r Ha hr' Ta fa => ?_⟩
      have b1 := fa _ _ x1 (not_in_one e4)
      have b2 := fa _ _ x4 (not_in_one (x3.ne_lst x4))
      have b3 := fa _ _ x5 (not_in_one (x3.ne_lst x5))
      have b4 := x6.trans (x3.tp fa)
      have b5 := x7.trans fa
      refine ⟨rfl, _, rfl, ite2 (fun _ => ?_) fun _ => ⟨zs, b1, by omega, Ta, b2, b3, b4, b5⟩⟩
      refine ⟨_, rfl, pp, _, rfl, SqT.of (b4 _ _ hpp), ?_⟩
      intro q ob q0 _
      have sb := same_new (o := .frz ob (.tup [u1, u2].reverse)) q0
      generalize upd Ha q (.frz ob (.tup [u1, u2].reverse)) = Hb at *
      have b1' := sb _ _ b1
      have tpp : Tp Hb (upd Hb dd (.lst (zs ++ [.ref q]))) := Tp.putL b1'
      exact ⟨zs, b1', Nat.lt_of_le_of_lt (by omega : zs.length ≤ 3120) (by decide), zs ++ [.ref q], upd_same, by rw [List.length_append]; show _ + 1 ≤ _; omega, (Ta.same sb).put e4 (L.T.ne_newc dd0), by rw [upd_ne ddp.symm]; exact sb _ _ b2, by rw [upd_ne dds.symm]; exact sb _ _ b3, (b4.trans (Tp.same sb)).trans tpp, Fr.freshU (b5.trans (Fr.same sb _)) dd0⟩
    · rintro Hw ⟨zs, x1, x2, x3, x4, x5, x6, x7⟩
      refine ⟨_, rfl, dd, _, rfl, SqL.of x1, ?_⟩
      (intro q q0; generalize hh_ : upd _ q _ = Hu; have hq := upd_is hh_; have su := same_is hh_ q0; clear hh_)
      refine .inl ⟨q, _, rfl, SqL.of hq, ?_⟩
      (intro q2 q20; generalize hh_ : upd _ q2 _ = Hu2; have hq2 := upd_is hh_; have su2 := same_is hh_ q20; clear hh_)
      exact ⟨_, rfl, ((L.fr x3 x7).same (su.trans su2)).mono (by omega)⟩
  clear L hpl hps hsl
  rintro σ Hw ⟨he, rfl, L⟩
  have h25 : (ws.map V.str)[25]? = some (.str (ws[25]'(by omega))) := by
    rw [List.getElem?_map, List.getElem?_eq_getElem (by omega)]
    rfl
  refine ⟨_, rfl, wl, _, 25, _, rfl, rfl, SqL.of L.hw, atI_nat (j := 25) h25, _, rfl, _, rfl, (by show 4 ≤ sizeLine; decide), ?_⟩
  (intro bx bx0; generalize hh_ : upd _ bx _ = Ha; have hbx := upd_is hh_; have sa := same_is hh_ bx0; clear hh_)
  refine ⟨_, rfl, (by show 3 ≤ sizeLine; decide), ?_⟩
  (intro sq sq0; generalize hh_ : upd _ sq _ = Hb; have hsq := upd_is hh_; have sb := same_is hh_ sq0; clear hh_)
  refine ⟨(by show 0 ≤ sizeLine; decide), ?_⟩
  (intro eq eq0; generalize hh_ : upd _ eq _ = Hc; have heq := upd_is hh_; have sc := same_is hh_ eq0; clear hh_)
  refine ⟨_, rfl, (by show 6 ≤ sizeLine; decide), ?_⟩
  (intro tp tp0; generalize hh_ : upd _ tp _ = Hd; have htp := upd_is hh_; have sd := same_is hh_ tp0; clear hh_)
  refine ⟨_, rfl, _, rfl, (by show 3 ≤ sizeLine; decide), ?_⟩
  (intro r r0; generalize hh_ : upd _ r _ = He; have hr0 := upd_is hh_; have se := same_is hh_ r0; clear hh_)
  have s2 := sc.trans (sd.trans se)
  have s3 := sa.trans (sb.trans s2)
  have L3 := L.same s3
  refine k r (.mk tp (ws[25]'(by omega)) (some (false, -50, 50)) fs) be he He hr0 ?_ ⟨?_, ?_⟩ ?_ (L3.T.mono (by omega)) L3.f
  · have hp : PtAt He 5 (.mk tp (ws[25]'(by omega)) (some (false, -50, 50)) fs) ∨ True := .inr trivial
    refine ⟨eq, ia, .ref bx, .str "hear", .ref sq, se _ _ htp, ⟨⟨sq, rfl, s2 _ _ hsq⟩, by decide, by decide⟩, L3.hi, fun k hk => (L3.pt k hk).up L3.d5⟩
  · show (ws[25] :: nmsT fs).Nodup
    rw [List.nodup_cons]
    refine ⟨fun hx => ?_, L.nd⟩
    have h1 := L.nin _ hx
    have sp : ws.take 26 = ws.take 25 ++ [ws[25]] := List.take_succ_eq_append_getElem (by omega)
    rw [sp, List.nodup_append] at wn
    have h2 : ws[25] ∈ ws.take 25 := by
      have e : ws.take N = (ws.take 25).take N := by rw [List.take_take, Nat.min_eq_left hN]
      rw [e] at h1
      exact List.mem_of_mem_take h1
    exact wn.2.2 _ h2 _ List.mem_cons_self rfl
  · intro x hx
    have hx' : x ∈ ws[25] :: nmsT fs := hx
    refine wo x ?_
    have sp : ws.take 26 = ws.take 25 ++ [ws[25]] := List.take_succ_eq_append_getElem (by omega)
    rw [sp]
    rcases List.mem_cons.mp hx' with rfl | hx'
    · exact List.mem_append_right _ List.mem_cons_self
    · refine List.mem_append_left _ ?_
      have e : ws.take N = (ws.take 25).take N := by rw [List.take_take, Nat.min_eq_left hN]
      have h1 := L.nin _ hx'
      rw [e] at h1
      exact List.mem_of_mem_take h1
  · show (ws[25] :: nmsT fs).length ≤ 30
    rw [List.length_cons, L.nl]
    omega
end
end SG
namespace SG
open PySem PySem.Spec PyProof.Rows L2
/-! ### the law's parts -/
def lgV : Sh → List V
  | none => [.str "none", .int 0, .int 0]
  | some (w, i, j) => [.str (wayS w), .int i, .int j]
def ouV : Ch → V
  | [] => .non
  | x :: _ => .str x.1
def entD (bx er q wi ov inn : V) : List (Key × V) := [(Sum.inr "box", bx), (Sum.inr "ear", er), (Sum.inr "ledge", q), (Sum.inr "wishes", wi), (Sum.inr "outer", ov), (Sum.inr "inner", inn)]
theorem eq_box_ear : ¬ (("box" : Str) = "ear") := by decide +kernel
theorem eq_box_ledge : ¬ (("box" : Str) = "ledge") := by decide +kernel
theorem eq_box_wishes : ¬ (("box" : Str) = "wishes") := by decide +kernel
theorem eq_box_outer : ¬ (("box" : Str) = "outer") := by decide +kernel
theorem eq_box_inner : ¬ (("box" : Str) = "inner") := by decide +kernel
theorem eq_ear_ledge : ¬ (("ear" : Str) = "ledge") := by decide +kernel
theorem eq_ear_wishes : ¬ (("ear" : Str) = "wishes") := by decide +kernel
theorem eq_ear_outer : ¬ (("ear" : Str) = "outer") := by decide +kernel
theorem eq_ear_inner : ¬ (("ear" : Str) = "inner") := by decide +kernel
theorem eq_ledge_wishes : ¬ (("ledge" : Str) = "wishes") := by decide +kernel
theorem eq_ledge_outer : ¬ (("ledge" : Str) = "outer") := by decide +kernel
theorem eq_ledge_inner : ¬ (("ledge" : Str) = "inner") := by decide +kernel
theorem eq_wishes_outer : ¬ (("wishes" : Str) = "outer") := by decide +kernel
theorem eq_wishes_inner : ¬ (("wishes" : Str) = "inner") := by decide +kernel
theorem eq_outer_inner : ¬ (("outer" : Str) = "inner") := by decide +kernel
theorem ent4 {a b c d : V} : mergeK [] [((Sum.inr ("box" : Str) : Key), a), (Sum.inr ("ear" : Str), b), (Sum.inr ("ledge" : Str), c), (Sum.inr ("wishes" : Str), d)] = [((Sum.inr ("box" : Str) : Key), a), (Sum.inr ("ear" : Str), b), (Sum.inr ("ledge" : Str), c), (Sum.inr ("wishes" : Str), d)] := by
  simp [mergeK, putK, eq_box_ear, eq_box_ledge, eq_box_wishes, eq_box_outer, eq_box_inner, eq_ear_ledge, eq_ear_wishes, eq_ear_outer, eq_ear_inner, eq_ledge_wishes, eq_ledge_outer, eq_ledge_inner, eq_wishes_outer, eq_wishes_inner, eq_outer_inner]
theorem ent2 {a b : V} : mergeK [] [((Sum.inr ("outer" : Str) : Key), a), (Sum.inr ("inner" : Str), b)] = [((Sum.inr ("outer" : Str) : Key), a), (Sum.inr ("inner" : Str), b)] := by
  simp [mergeK, putK, eq_box_ear, eq_box_ledge, eq_box_wishes, eq_box_outer, eq_box_inner, eq_ear_ledge, eq_ear_wishes, eq_ear_outer, eq_ear_inner, eq_ledge_wishes, eq_ledge_outer, eq_ledge_inner, eq_wishes_outer, eq_wishes_inner, eq_outer_inner]
theorem ent6 {a b c d x y : V} : mergeK [((Sum.inr ("box" : Str) : Key), a), (Sum.inr ("ear" : Str), b), (Sum.inr ("ledge" : Str), c), (Sum.inr ("wishes" : Str), d)] [((Sum.inr ("outer" : Str) : Key), x), (Sum.inr ("inner" : Str), y)] = entD a b c d x y := by
  simp [mergeK, putK, entD, eq_box_ear, eq_box_ledge, eq_box_wishes, eq_box_outer, eq_box_inner, eq_ear_ledge, eq_ear_wishes, eq_ear_outer, eq_ear_inner, eq_ledge_wishes, eq_ledge_outer, eq_ledge_inner, eq_wishes_outer, eq_wishes_inner, eq_outer_inner]
theorem ent_ledge {a b c d x y : V} : valV (entD a b c d x y) (Sum.inr ("ledge" : Str) : Key) = some c := by
  simp [valV, entD, eq_box_ear, eq_box_ledge, eq_box_wishes, eq_box_outer, eq_box_inner, eq_ear_ledge, eq_ear_wishes, eq_ear_outer, eq_ear_inner, eq_ledge_wishes, eq_ledge_outer, eq_ledge_inner, eq_wishes_outer, eq_wishes_inner, eq_outer_inner]
theorem ent_outer {a b c d x y : V} : valV (entD a b c d x y) (Sum.inr ("outer" : Str) : Key) = some x := by
  simp [valV, entD, eq_box_ear, eq_box_ledge, eq_box_wishes, eq_box_outer, eq_box_inner, eq_ear_ledge, eq_ear_wishes, eq_ear_outer, eq_ear_inner, eq_ledge_wishes, eq_ledge_outer, eq_ledge_inner, eq_wishes_outer, eq_wishes_inner, eq_outer_inner]
def keysOf (es : List Ch) : List Key := es.map fun c => (Sum.inr (hn c) : Key)
def LP (H0 H : Hp) (fd : Addr) (es : List Ch) : Prop := ∃ kvs : List (Key × V), H fd = some (.dK kvs) ∧ kvs.map (·.1) = keysOf es ∧ ∀ ch ∈ es, ∃ (x : Str × Sh) (c : Ch) (e q : Addr) (bx er wi inn : V), ch = x :: c ∧ valV kvs (Sum.inr x.1 : Key) = some (.ref e) ∧ e ≠ fd ∧ H0 e = none ∧
  H e = some (.dK (entD bx er (.ref q) wi (ouV c) inn)) ∧ H q = some (.tup (lgV x.2))
theorem LP.keep {H0 H H' : Hp} {fd : Addr} {es : List Ch} {S : List Addr} (h : LP H0 H fd es) (f : Fr S H H') (tp : Tp H H') (hS : ∀ s ∈ S, s ≠ fd ∧ ((∃ o, H0 s = some o) ∨ H s = none)) : LP H0 H' fd es := by
  obtain ⟨kvs, h1, h2, h3⟩ := h
  refine ⟨kvs, f _ _ h1 (fun m => (hS fd m).1 rfl), h2, fun ch hc => ?_⟩
  obtain ⟨x, c, e, q, bx, er, wi, inn, e1, e2, e3, e4, e5, e6⟩ := h3 ch hc
  refine ⟨x, c, e, q, bx, er, wi, inn, e1, e2, e3, e4, f _ _ e5 (fun m => ?_), tp _ _ e6⟩
  rcases (hS e m).2 with ⟨o, z⟩ | z
  · rw [e4] at z; cases z
  · rw [e5] at z; cases z
theorem LP.same {H0 H H' : Hp} {fd : Addr} {es : List Ch} (h : LP H0 H fd es) (s : Same H H') : LP H0 H' fd es := h.keep (S := []) (Fr.same s _) (Tp.same s) (fun _ m => nomatch m)
def spParts (d : Nat) : Sp := fun vs H Q _ => ∃ (H0 : Hp) (fd : Addr) (p : Tr) (ch : Ch) (es : List Ch), vs = [.ref p.a, ouV ch, .ref fd] ∧ PtAt H d p ∧ LP H0 H fd es ∧ Same H0 H ∧ H0 fd = none ∧ (∀ n ∈ p.nms, n ∉ es.map hn) ∧ p.nms.Nodup ∧ es.length + p.nms.length ≤ 100 ∧
  ∀ H', LP H0 H' fd (es ++ p.chs ch) → Fr [fd] H H' → Q (.ref fd) H'
section
variable {P : Program} {w : World} {K : PySem.W.Frag} {mg : Str → Option Value} {base : Heap}
theorem ok_parts {d : Nat} (D : Df K mg "_law_parts" s_law_parts ["_law_part", "_law_outer", "_law_found"]) (T : Txt K mg) (c_law_parts : Cl P w K mg base (d + 1) "_law_parts" (spParts d)) : Cl P w K mg base (d + 2) "_law_parts" (spParts (d + 1)) := by
  refine D.ok sc_law_parts (fun vs H Q E h => ?_) (fun f cdv A outer s H vs Q E hr h => ?_)
  · obtain ⟨_, _, _, _, _, rfl, _⟩ := h
    rfl
  obtain ⟨H0, fd, p, ch, es, rfl, hp, hL, s0, fd0, nin, nd, few, k⟩ := h
  have hu := hu_of hr
  refine ⟨_, -- _law_name, _law_box, _law_ear, _law_ledge, _law_wishes, _law_inner = _law_part
    (pss_cons (ps_asg (pv 0) (pg_tup rfl (pgs_cons (pg_name (i := 3) sc_law_parts.nd rfl (Or.inl rfl)) (pgs_cons (pg_name (i := 4) sc_law_parts.nd rfl (Or.inl rfl)) (pgs_cons (pg_name (i := 5) sc_law_parts.nd rfl (Or.inl rfl)) (pgs_cons (pg_name (i := 6) sc_law_parts.nd rfl (Or.inl rfl)) (pgs_cons (pg_name (i := 7) sc_law_parts.nd rfl (Or.inl rfl)) (pgs_cons (pg_name (i := 8) sc_law_parts.nd rfl (Or.inl rfl)) pgs_nil))))))))
    (C8.pss_cut (ps_dput hu (pv 2) (pv 3) (pe_disp (pps_cons pe_str (pv 4) (pps_cons pe_str (pv 5) (pps_cons pe_str (pe_orT (pv 6) (pe_one (pe_tup (pa_cons pe_str (pa_cons pe_int (pa_cons pe_int pa_nil)))))) (pps_cons pe_str (pv 7) pps_nil)))) rfl rfl (by decide) (by decide)) rfl)
    (C8.pss_cut (ps_expr (pe_bm PySem.F.plainAttrs_dict PySem.F.slot_dict_update PySem.F.type_dict_update mt_upd (pe_dget hu (pv 2) (pv 3) (fun _ _ => rfl)) (pa_cons (pe_disp (pps_cons pe_str (pv 1) (pps_cons pe_str (pe_lc (own := [("_law_one", 9)]) rfl sc_law_parts.nd (pi_tup (pv 8)) (blkOk_by (N := N_law_parts) (sc := defScope s_law_parts) (by decide +kernel)) (fun _ _ _ _ _ => (pg_name (i := 9) sc_law_parts.nd rfl (Or.inl rfl))) (fun _ _ _ _ _ => pts_nil) (fun _ _ _ _ _ => (pe_ix (r := rIxT K) ix_tup (pv 9) pe_int (fun _ _ => rfl)))) pps_nil)) rfl rfl (by decide) (by decide)) pa_nil)))
    (pss_cons (ps_for PassesOwn.never rfl (pi_tup (pv 8)) (pg_name (i := 9) sc_law_parts.nd rfl (Or.inl rfl))
      (pss_one (ps_expr (pe_cl c_law_parts (hr.mono (by first | decide | omega)) rfl (pa_cons (pv 9) (pa_cons (pv 3) (pa_cons (pv 2) pa_nil)))))))
    (pss_one (ps_ret (pv 2))))))), ?_⟩
  obtain ⟨ws, ks, bx, ear, sh, h1, h2, h3, h4⟩ := hp
  refine ⟨_, rfl, p.a, _, rfl, SqT.of h1, rfl, _, _, rfl, _, _, rfl, _, _, rfl, _, _, rfl, _, _, rfl, _, _, rfl, rfl, ?_⟩
  refine ⟨fun σ Hx => σ = [some (.ref p.a), some (ouV ch), some (.ref fd), some (.str p.nm), some bx, some ear, some sh, some (.ref ws), some (.ref ks), none] ∧ ∃ (kvs : List (Key × V)) (e q : Addr), Hx fd = some (.dK (kvs ++ [((Sum.inr p.nm : Key), V.ref e)])) ∧ H fd = some (.dK kvs) ∧ H e = none ∧ Hx e = some (.dK [(Sum.inr "box", bx), (Sum.inr "ear", ear), (Sum.inr "ledge", .ref q), (Sum.inr "wishes", .ref ws)]) ∧ Hx q = some (.tup (lgV p.sh)) ∧ Fr [fd] H Hx ∧ Tp H Hx, ?_, ?_⟩
  · intro e e0
    have s1 := same_new (o := .dK []) e0
    have he : (upd H e (.dK [])) e = some (.dK []) := upd_same
    generalize upd H e (.dK []) = H1 at *
    obtain ⟨kvs, l1, l2, l3⟩ := hL
    have efd : e ≠ fd := (ne_of_none l1 e0).symm
    have kl : kvs.length ≤ 100 := by
      have := congrArg List.length l2
      unfold keysOf at this
      rw [List.length_map, List.length_map] at this
      omega
    have vn : valV kvs (Sum.inr p.nm : Key) = none := by
      cases z : valV kvs (Sum.inr p.nm : Key) with
      | none => rfl
      | some v =>
        have := valV_in z
        rw [l2] at this
        obtain ⟨c, hc, ec⟩ := List.mem_map.mp this
        exact absurd (List.mem_map.mpr ⟨c, hc, Sum.inr.inj ec⟩) (nin p.nm (by rw [nms_eq]; exact List.mem_cons_self))
    have fin : ∀ (q : Addr) (H2 : Hp), Same H1 H2 → H2 q = some (.tup (lgV p.sh)) → ∃ H', DPut (upd H2 e (.dK [(Sum.inr "box", bx), (Sum.inr "ear", ear), (Sum.inr "ledge", .ref q), (Sum.inr "wishes", .ref ws)])) fd (.str p.nm) (.ref e) H' ∧ ∃ (kvs : List (Key × V)) (e q : Addr), H' fd = some (.dK (kvs ++ [((Sum.inr p.nm : Key), V.ref e)])) ∧ H fd = some (.dK kvs) ∧ H e = none ∧ H' e = some (.dK [(Sum.inr "box", bx), (Sum.inr "ear", ear), (Sum.inr "ledge", .ref q), (Sum.inr "wishes", .ref ws)]) ∧ H' q = some (.tup (lgV p.sh)) ∧ Fr [fd] H H' ∧ Tp H H' := fun q H2 s2 hq => by
      have he2 := s2 _ _ he
      have u1 : (upd H2 e (.dK [(Sum.inr "box", bx), (Sum.inr "ear", ear), (Sum.inr "ledge", .ref q), (Sum.inr "wishes", .ref ws)])) fd = some (.dK kvs) := by rw [upd_ne efd.symm]; exact s2 _ _ (s1 _ _ l1)
      have n1 : Nd H2 (upd H2 e (.dK [(Sum.inr "box", bx), (Sum.inr "ear", ear), (Sum.inr "ledge", .ref q), (Sum.inr "wishes", .ref ws)])) := Nd.put he2
      have n2 : Nd (upd H2 e (.dK [(Sum.inr "box", bx), (Sum.inr "ear", ear), (Sum.inr "ledge", .ref q), (Sum.inr "wishes", .ref ws)])) (upd (upd H2 e (.dK [(Sum.inr "box", bx), (Sum.inr "ear", ear), (Sum.inr "ledge", .ref q), (Sum.inr "wishes", .ref ws)])) fd (.dK (putK kvs (Sum.inr p.nm : Key) (.ref e)))) := Nd.put u1
      refine ⟨_, DPut.k (k := Sum.inr p.nm) u1 (small100 kl), kvs, e, q, ?_, l1, e0, ?_, ?_, ?_, ?_⟩
      · rw [upd_same, putK_new _ vn]
      · rw [upd_ne efd, upd_same]
      · exact (n1.trans n2).tp _ _ hq
      · intro z o eo nz
        rw [upd_ne (by simpa using nz), upd_ne (fun h => by rw [h, e0] at eo; cases eo)]
        exact s2 _ _ (s1 _ _ eo)
      · exact ((Nd.same (s1.trans s2)).trans (n1.trans n2)).tp
    rcases hsh : p.sh with _ | ⟨w', z1, z2⟩
    · rw [hsh] at h2 fin
      obtain rfl : sh = .non := h2
      refine ⟨_, rfl, _, rfl, _, rfl, false, rfl, iteF ?_⟩
      refine ⟨(by show 3 ≤ sizeLine; decide), ?_⟩
      (intro q q0; generalize hh_ : upd _ q _ = H2; have hq := upd_is hh_; have s2 := same_is hh_ q0; clear hh_)
      refine ⟨_, rfl, s2 _ _ he, [((Sum.inr ("box" : Str) : Key), bx), (Sum.inr ("ear" : Str), ear), (Sum.inr ("ledge" : Str), .ref q), (Sum.inr ("wishes" : Str), .ref ws)], rfl, (by show 4 ≤ 15; decide), ?_⟩
      rw [ent4]
      obtain ⟨H', d1, d2⟩ := fin q H2 s2 hq
      exact ⟨_, rfl, _, rfl, fd, H', rfl, d1, rfl, d2⟩
    · rw [hsh] at h2 fin
      obtain ⟨⟨q, rfl, hq⟩, _⟩ := h2
      refine ⟨_, rfl, _, rfl, _, rfl, true, Or.inr (Or.inl ⟨_, SqT.of (s1 _ _ hq), rfl⟩), iteT ?_⟩
      refine ⟨_, rfl, he, [((Sum.inr ("box" : Str) : Key), bx), (Sum.inr ("ear" : Str), ear), (Sum.inr ("ledge" : Str), .ref q), (Sum.inr ("wishes" : Str), .ref ws)], rfl, (by show 4 ≤ 15; decide), ?_⟩
      rw [ent4]
      obtain ⟨H', d1, d2⟩ := fin q H1 (Same.refl _) (s1 _ _ hq)
      exact ⟨_, rfl, _, rfl, fd, H', rfl, d1, rfl, d2⟩
  rintro σ Hx ⟨rfl, kvs, e, q, x1, x2, x3, x4, x5, x6, x7⟩
  refine ⟨fun σ Hy => σ = [some (.ref p.a), some (ouV ch), some (.ref fd), some (.str p.nm), some bx, some ear, some sh, some (.ref ws), some (.ref ks), none] ∧ LP H0 Hy fd (es ++ [(p.nm, p.sh) :: ch]) ∧ Fr [fd] H Hy ∧ Tp H Hy, ?_, ?_⟩
  · have vnew : valV (kvs ++ [((Sum.inr p.nm : Key), V.ref e)]) (Sum.inr p.nm : Key) = some (.ref e) := by
      obtain ⟨kvs', l1, l2, l3⟩ := hL
      rw [x2] at l1
      cases l1
      have vn : valV kvs (Sum.inr p.nm : Key) = none := by
        cases z : valV kvs (Sum.inr p.nm : Key) with
        | none => rfl
        | some v =>
          have := valV_in z
          rw [l2] at this
          obtain ⟨c, hc, ec⟩ := List.mem_map.mp this
          exact absurd (List.mem_map.mpr ⟨c, hc, Sum.inr.inj ec⟩) (nin p.nm (by rw [nms_eq]; exact List.mem_cons_self))
      rw [valV_snoc _ _ _ _ vn, if_pos rfl]
    have dg : DGet Hx fd (.str p.nm) (some (.ref e)) := by
      have := DGet.k (k := Sum.inr p.nm) x1
      rw [vnew] at this
      exact this
    refine ⟨_, rfl, _, rfl, fd, _, rfl, dg, ?_⟩
    refine ⟨.inr (.inr (.inl ⟨rfl, .inl ⟨_, x4⟩⟩)), ?_⟩
    intro m m0
    have sm := same_new (o := .dK []) m0
    have hm : (upd Hx m (.dK [])) m = some (.dK []) := upd_same
    generalize upd Hx m (.dK []) = H1 at *
    have t01 : Tp H H1 := x7.trans (Tp.same sm)
    refine ⟨_, rfl, _, rfl, ks, rfl, ⟨_, SqT.of (t01 _ _ h3)⟩, fun dd hdd => ?_⟩
    have dd0 : H1 dd = none := hdd
    refine lc_tup (K := K) (a := ks) (xs := p.ks.map fun k => V.ref k.a) (fun j Hz => ∃ zs : List V, Hz dd = some (.lst zs) ∧ zs.length ≤ j ∧ Same H1 Hz) ?_ ?_ ?_ ?_
    · exact ⟨[], upd_same, Nat.le_refl _, same_new dd0⟩
    · intro j Hz _ ⟨_, _, _, sz⟩
      exact SqT.of (sz _ _ (t01 _ _ h3))
    · rintro j x Hz hj ⟨zs, z1, z2, z3⟩
      rw [List.getElem?_map] at hj
      obtain ⟨q', hq', rfl⟩ := Option.map_eq_some_iff.mp hj
      have lj : j < p.ks.length := (List.getElem?_eq_some_iff.mp hq').1
      have lk := lenT p.ks
      have ln : p.nms.length = (nmsT p.ks).length + 1 := by rw [nms_eq, List.length_cons]
      have pq := (h4 q' (List.mem_of_getElem? hq')).tp (t01.trans (Tp.same z3))
      cases d with
      | zero => exact pq.elim
      | succ d =>
      obtain ⟨ws', ks', bx', ear', sh', g1, _⟩ := pq
      refine ⟨rfl, ?_⟩
      refine ⟨_, rfl, q'.a, _, 0, _, rfl, rfl, SqT.of g1, atI_nat (j := 0) rfl, zs, z1, small100 (by omega), zs ++ [.str q'.nm], upd_same, by rw [List.length_append]; show _ + 1 ≤ _; omega, ?_⟩
      intro z o eo
      rw [upd_ne (fun h => by rw [h, dd0] at eo; cases eo)]
      exact z3 _ _ eo
    · rintro Hz ⟨zs, z1, z2, z3⟩
      refine ⟨z3 _ _ hm, [((Sum.inr ("outer" : Str) : Key), ouV ch), (Sum.inr ("inner" : Str), .ref dd)], rfl, (by show 2 ≤ 15; decide), ?_⟩
      rw [ent2]
      have he := z3 _ _ (sm _ _ x4)
      have em : e ≠ m := ne_of_none x4 m0
      have he2 : (upd Hz m (.dK [((Sum.inr ("outer" : Str) : Key), ouV ch), (Sum.inr ("inner" : Str), .ref dd)])) e = some (.dK [(Sum.inr "box", bx), (Sum.inr "ear", ear), (Sum.inr "ledge", .ref q), (Sum.inr "wishes", .ref ws)]) := by rw [upd_ne em]; exact he
      have n1 : Nd Hz (upd Hz m (.dK [((Sum.inr ("outer" : Str) : Key), ouV ch), (Sum.inr ("inner" : Str), .ref dd)])) := Nd.put (z3 _ _ hm)
      have hfd : (upd Hz m (.dK [((Sum.inr ("outer" : Str) : Key), ouV ch), (Sum.inr ("inner" : Str), .ref dd)])) fd = some (.dK (kvs ++ [((Sum.inr p.nm : Key), V.ref e)])) := by rw [upd_ne (ne_of_none x1 m0)]; exact z3 _ _ (sm _ _ x1)
      have fr1 : Fr [fd] H (upd Hz m (.dK [((Sum.inr ("outer" : Str) : Key), ouV ch), (Sum.inr ("inner" : Str), .ref dd)])) := by
        intro z o eo nz
        have := x6 z o eo nz
        rw [upd_ne (fun h => by rw [h, m0] at this; cases this)]
        exact z3 _ _ (sm _ _ this)
      have tp1 : Tp H (upd Hz m (.dK [((Sum.inr ("outer" : Str) : Key), ouV ch), (Sum.inr ("inner" : Str), .ref dd)])) := t01.trans ((Tp.same z3).trans n1.tp)
      have hq1 := n1.tp _ _ (z3 _ _ (sm _ _ x5))
      refine ⟨e, m, _, _, rfl, rfl, em, he2, upd_same, (by show 6 ≤ sizeLine; decide), ?_⟩
      rw [ent6]
      generalize upd Hz m (.dK [((Sum.inr ("outer" : Str) : Key), ouV ch), (Sum.inr ("inner" : Str), .ref dd)]) = Hw at *
      have n2 : Nd Hw (upd Hw e (.dK (entD bx ear (.ref q) (.ref ws) (ouV ch) (.ref dd)))) := Nd.put he2
      obtain ⟨kvs', l1, l2, l3⟩ := hL
      rw [x2] at l1
      cases l1
      have efd : e ≠ fd := (ne_of_none x2 x3).symm
      have f2 : Fr [fd] H (upd Hw e (.dK (entD bx ear (.ref q) (.ref ws) (ouV ch) (.ref dd)))) := Fr.freshU fr1 x3
      refine ⟨rfl, ⟨kvs ++ [((Sum.inr p.nm : Key), V.ref e)], by rw [upd_ne efd.symm]; exact hfd, ?_, ?_⟩, f2, tp1.trans n2.tp⟩
      · rw [List.map_append, l2]
        unfold keysOf
        rw [List.map_append]
        rfl
      · intro c hc
        rcases List.mem_append.mp hc with hc | hc
        · obtain ⟨x, c', e', q', bx', er', wi', inn', a1, a2, a3, a4, a5, a6⟩ := l3 c hc
          refine ⟨x, c', e', q', bx', er', wi', inn', a1, ?_, a3, a4, f2 _ _ a5 (by simpa using a3), (tp1.trans n2.tp) _ _ a6⟩
          have vn : valV kvs (Sum.inr p.nm : Key) = none := by
            cases z : valV kvs (Sum.inr p.nm : Key) with
            | none => rfl
            | some v =>
              have := valV_in z
              rw [l2] at this
              obtain ⟨c, hc, ec⟩ := List.mem_map.mp this
              exact absurd (List.mem_map.mpr ⟨c, hc, Sum.inr.inj ec⟩) (nin p.nm (by rw [nms_eq]; exact List.mem_cons_self))
          have ne : ¬ (Sum.inr x.1 : Key) = Sum.inr p.nm := fun h => by
            have e9 : hn c = p.nm := by rw [a1, ← Sum.inr.inj h]; rfl
            exact nin p.nm (by rw [nms_eq]; exact List.mem_cons_self) (by rw [← e9]; exact List.mem_map.mpr ⟨c, hc, rfl⟩)
          rw [valV_snoc _ _ _ _ vn, if_neg ne]
          exact a2
        · rw [List.mem_singleton.mp hc]
          have e0 : H0 e = none := by
            cases z : H0 e with
            | none => rfl
            | some o => rw [s0 _ _ z] at x3; cases x3
          exact ⟨(p.nm, p.sh), ch, e, q, bx, ear, .ref ws, .ref dd, rfl, vnew, efd, e0, upd_same, n2.tp _ _ hq1⟩
  clear x1 x2 x3 x4 x5 x6 x7 hL
  rintro σ Hy ⟨rfl, y1, y2, y3⟩
  rw [nms_eq] at nd few nin
  rw [List.nodup_cons] at nd
  refine ⟨_, rfl, ks, rfl, ⟨_, SqT.of (y3 _ _ h3)⟩, for_tup (K := K) (a := ks) (xs := p.ks.map fun k => V.ref k.a) (fun i σ Hz => ∃ (k9 : Option V), σ = [some (.ref p.a), some (ouV ch), some (.ref fd), some (.str p.nm), some bx, some ear, some sh, some (.ref ws), some (.ref ks), k9] ∧
    LP H0 Hz fd (es ++ (((p.nm, p.sh) :: ch) :: chsL ((p.nm, p.sh) :: ch) (p.ks.take i))) ∧ Fr [fd] H Hz ∧ Tp H Hz) ?_ (fun i σ Hz _ ⟨_, _, _, _, z⟩ => SqT.of (z _ _ h3)) ?_ ?_⟩
  · exact ⟨none, rfl, y1, y2, y3⟩
  · rintro i y σ Hz hi ⟨k9, rfl, z1, z2, z3⟩
    rw [List.getElem?_map] at hi
    obtain ⟨q, hq, rfl⟩ := Option.map_eq_some_iff.mp hi
    have sp := nmsT_at hq
    rw [sp] at nd few nin
    have ndq := nd.2
    rw [List.nodup_append, List.nodup_append] at ndq
    have lc : (chsL ((p.nm, p.sh) :: ch) (p.ks.take i)).length = (nmsT (p.ks.take i)).length := by rw [← hn_chsL (p.ks.take i) ((p.nm, p.sh) :: ch), List.length_map]
    simp only [List.length_cons, List.length_append] at few
    have s0z : Same H0 Hz := fun z o eo => by
      refine z2 z o (s0 _ _ eo) ?_
      simp
      rintro rfl
      rw [fd0] at eo
      cases eo
    refine ⟨_, rfl, _, rfl, _, rfl, H0, fd, q, (p.nm, p.sh) :: ch, _, rfl, (h4 q (List.mem_of_getElem? hq)).tp z3, z1, s0z, fd0, ?_, ndq.2.1.1, ?_, ?_⟩
    · intro n hn' hm'
      rw [List.map_append, List.map_cons, hn_chsL] at hm'
      rcases List.mem_append.mp hm' with hm' | hm'
      · exact nin n (List.mem_cons_of_mem _ (List.mem_append_right _ (List.mem_append_left _ hn'))) hm'
      rcases List.mem_cons.mp hm' with hm' | hm'
      · exact nd.1 (by rw [show p.nm = n from hm'.symm]; exact List.mem_append_right _ (List.mem_append_left _ hn'))
      · exact ndq.2.2 n hm' n (List.mem_append_left _ hn') rfl
    · rw [List.length_append, List.length_cons, lc]
      omega
    · intro Hw w1 w2
      have kv := z1
      obtain ⟨kvz, kz, _⟩ := z1
      have tw : Tp Hz Hw := fun b xs e => w2 b _ e (by simp; rintro rfl; rw [kz] at e; cases e)
      refine ⟨_, rfl, ?_, z2.trans w2, z3.trans tw⟩
      simpa only [List.append_assoc, List.cons_append, chsL_snoc hq] using w1
  · rintro σ Hz ⟨k9, rfl, z1, z2, z3⟩
    rw [List.length_map, List.take_length] at z1
    rw [chs_eq] at k
    exact ⟨_, rfl, k Hz z1 z2⟩
theorem all_parts (D : Df K mg "_law_parts" s_law_parts ["_law_part", "_law_outer", "_law_found"]) (T : Txt K mg) : ∀ d : Nat, Cl P w K mg base (d + 1) "_law_parts" (spParts d)
  | 0 => (D.none fun _ _ _ _ h => by
      obtain ⟨_, _, _, _, _, _, z, _⟩ := h
      exact z).mono (Nat.zero_le _)
  | d + 1 => ok_parts D T (all_parts D T d)
end
end SG
namespace SG
open PySem PySem.Spec PyProof.Rows L2
structure HeldAt (H0 H : Hp) (h fd sp gl : Addr) : Prop where
  ex : ∃ kv : List (Key × V), H h = some (.dK kv) ∧ valV kv (Sum.inr "parts" : Key) = some (.ref fd) ∧ valV kv (Sum.inr "spots" : Key) = some (.ref sp) ∧ valV kv (Sum.inr "gone" : Key) = some (.ref gl)
  g : H gl = some (.lst [])
  h0 : H0 h = none
  g0 : H0 gl = none
def SpAt (H : Hp) (sp : Addr) (es : List Ch) (f : Str → Int) : Prop := H sp = some (.dK (kvI (es.map hn) f))
theorem HeldAt.keep {H0 H H' : Hp} {h fd sp gl : Addr} {S : List Addr} (x : HeldAt H0 H h fd sp gl) (f : Fr S H H') (h1 : h ∉ S) (h2 : gl ∉ S) : HeldAt H0 H' h fd sp gl := by
  obtain ⟨⟨kv, k1, k2⟩, g, h0, g0⟩ := x
  exact ⟨⟨kv, f _ _ k1 h1, k2⟩, f _ _ g h2, h0, g0⟩
theorem LP.weak {H0 H1 H : Hp} {fd : Addr} {es : List Ch} (h : LP H1 H fd es) (s : Same H0 H1) : LP H0 H fd es := by
  obtain ⟨kvs, h1, h2, h3⟩ := h
  refine ⟨kvs, h1, h2, fun ch hc => ?_⟩
  obtain ⟨x, c, e, q, bx, er, wi, inn, e1, e2, e3, e4, e5, e6⟩ := h3 ch hc
  refine ⟨x, c, e, q, bx, er, wi, inn, e1, e2, e3, ?_, e5, e6⟩
  cases z : H0 e with
  | none => rfl
  | some o => rw [s _ _ z] at e4; cases e4
theorem kvI_merge {f : Str → Int} : ∀ (b a : List Str), (a ++ b).Nodup → mergeK (kvI a f) (kvI b f) = kvI (a ++ b) f
  | [], a, _ => by rw [List.append_nil]; rfl
  | n :: r, a, h => by
    show mergeK (putK (kvI a f) (Sum.inr n : Key) (.int (f n))) (kvI r f) = _
    have hn : n ∉ a := fun m => by
      rw [List.nodup_append] at h
      exact h.2.2 n m n List.mem_cons_self rfl
    rw [kvI_new hn, kvI_merge r (a ++ [n]) (by rw [List.append_assoc]; exact h), List.append_assoc]
    rfl
theorem kvI_self {f : Str → Int} {ns : List Str} (h : ns.Nodup) : mergeK [] (kvI ns f) = kvI ns f := kvI_merge ns [] h
theorem key_at {kvs : List (Key × V)} {es : List Ch} (h : kvs.map (·.1) = keysOf es) {i : Nat} {k : Key} {v : V} (e : kvs[i]? = some (k, v)) : ∃ n, k = Sum.inr n ∧ (es.map hn)[i]? = some n := by
  have h1 : (kvs.map (·.1))[i]? = some k := by rw [List.getElem?_map, e]; rfl
  rw [h] at h1
  unfold keysOf at h1
  rw [List.getElem?_map] at h1
  obtain ⟨c, hc, rfl⟩ := Option.map_eq_some_iff.mp h1
  exact ⟨hn c, rfl, by rw [List.getElem?_map, hc]; rfl⟩
theorem take_snoc {α : Type} {l : List α} {i : Nat} {x : α} (h : l[i]? = some x) : l.take (i + 1) = l.take i ++ [x] := by
  obtain ⟨hi, e⟩ := List.getElem?_eq_some_iff.mp h
  rw [List.take_succ_eq_append_getElem hi, e]
/-- pairs of names and numbers, made one by one -/
def PairsI (H : Hp) (ps : List Addr) (ns : List Str) (f : Str → Int) : Prop := Paired (fun p (n : Str) => H p = some (.tup [.str n, .int (f n)])) ps ns
theorem PairsI.tp {H H' : Hp} {f : Str → Int} (t : Tp H H') : ∀ {ps : List Addr} {ns : List Str}, PairsI H ps ns f → PairsI H' ps ns f
  | [], [], _ => .nil
  | _ :: _, _ :: _, .cons a b => .cons (t _ _ a) (PairsI.tp t b)
theorem PairsI.snoc {H : Hp} {f : Str → Int} {p : Addr} {n : Str} (h : H p = some (.tup [.str n, .int (f n)])) : ∀ {ps : List Addr} {ns : List Str}, PairsI H ps ns f → PairsI H (ps ++ [p]) (ns ++ [n]) f
  | [], [], _ => .cons h .nil
  | _ :: _, _ :: _, .cons a b => .cons a (PairsI.snoc h b)
theorem PairsI.kv {K : PySem.W.Frag} {H : Hp} {f : Str → Int} : ∀ {ps : List Addr} {ns : List Str}, PairsI H ps ns f → Paired (fun p (kv : Key × V) => SqT K H p [kV kv.1, kv.2]) ps (kvI ns f)
  | [], [], _ => .nil
  | _ :: _, _ :: _, .cons a b => .cons (SqT.of a) (PairsI.kv b)
def spOwn : Sp := fun vs H Q _ => ∃ (r : Addr) (p : Tr) (x y : V), vs = [.ref r, .int 18, .int 300, .bl false] ∧ H r = some (.tup [.ref p.a, x, y]) ∧ PtAt H 6 p ∧ p.nms.Nodup ∧ p.nms.length ≤ 100 ∧
  ∀ H' h fd sp gl, HeldAt H H' h fd sp gl → LP H H' fd (p.chs []) → SpAt H' sp (p.chs []) (fun _ => 0) → Same H H' → (H fd = none ∧ H sp = none) → (fd ≠ h ∧ sp ≠ h ∧ sp ≠ fd) → Q (.ref h) H'
theorem sw1 : ¬ (("parts" : Str) = "guesses") := by decide +kernel
theorem sw2 : ¬ (("parts" : Str) = "now") := by decide +kernel
theorem sw3 : ¬ (("parts" : Str) = "count") := by decide +kernel
theorem six {i : Nat} {v : V} (h : [V.str "gone", .str "away", .str "strokes", .str "hopes", .str "waits", .str "told"][i]? = some v) : ∃ wd : Str, v = .str wd ∧ ¬ wd = "parts" ∧ (i = 0 → wd = "gone") ∧ (1 ≤ i → ¬ wd = "gone") := by
  match i, h with
  | 0, h => cases h; exact ⟨_, rfl, by decide +kernel, fun _ => rfl, fun z => absurd z (by decide)⟩
  | 1, h => cases h; exact ⟨_, rfl, by decide +kernel, fun z => absurd z (by decide), fun _ => by decide +kernel⟩
  | 2, h => cases h; exact ⟨_, rfl, by decide +kernel, fun z => absurd z (by decide), fun _ => by decide +kernel⟩
  | 3, h => cases h; exact ⟨_, rfl, by decide +kernel, fun z => absurd z (by decide), fun _ => by decide +kernel⟩
  | 4, h => cases h; exact ⟨_, rfl, by decide +kernel, fun z => absurd z (by decide), fun _ => by decide +kernel⟩
  | 5, h => cases h; exact ⟨_, rfl, by decide +kernel, fun z => absurd z (by decide), fun _ => by decide +kernel⟩
  | n + 6, h => cases h
theorem sw4 : ¬ (("guesses" : Str) = "now") := by decide +kernel
theorem sw5 : ¬ (("guesses" : Str) = "count") := by decide +kernel
theorem sw6 : ¬ (("now" : Str) = "count") := by decide +kernel
theorem mm_is {a b c d : V} : mergeK [] [((Sum.inr ("parts" : Str) : Key), a), (Sum.inr ("guesses" : Str), b), (Sum.inr ("now" : Str), c), (Sum.inr ("count" : Str), d)] = [((Sum.inr ("parts" : Str) : Key), a), (Sum.inr ("guesses" : Str), b), (Sum.inr ("now" : Str), c), (Sum.inr ("count" : Str), d)] := by
  simp [mergeK, putK, sw1, sw2, sw3, sw4, sw5, sw6]
theorem upd_parts {kv : List (Key × V)} {a b c d : V} : valV (mergeK kv [((Sum.inr ("parts" : Str) : Key), a), (Sum.inr ("guesses" : Str), b), (Sum.inr ("now" : Str), c), (Sum.inr ("count" : Str), d)]) (Sum.inr ("parts" : Str) : Key) = some a := by
  simp [mergeK, valV_put, sw1, sw2, sw3]
section
variable {P : Program} {w : World} {K : PySem.W.Frag} {mg : Str → Option Value} {base : Heap}
theorem ok_own (D : Df K mg "_law_own" s_law_own ["_law_scene", "_law_far", "_law_pause", "_law_is_guessing"]) (T : Txt K mg) (c_law_parts : Cl P w K mg base 7 "_law_parts" (spParts 6)) : Cl P w K mg base 8 "_law_own" spOwn := by
  refine D.ok sc_law_own (fun vs H Q E h => ?_) (fun f cdv A outer s H vs Q E hr h => ?_)
  · obtain ⟨_, _, _, _, rfl, _⟩ := h
    rfl
  obtain ⟨r, p, x, y, rfl, hr0, hp, nd, few, k⟩ := h
  have hu := hu_of hr
  refine ⟨_, -- _law_found = {'top': _law_scene[0][0], 'beside': _law_scene[1], 'heeds': _law_scene[2], 'far': _law_far, 'pause': _law_pause}
    (C8.pss_cut (ps_set (i := 4) sc_law_own.nd rfl (Or.inl rfl) (pe_disp (pps_cons pe_str (pe_ix ix_tup (pe_ix ix_tup (pv 0) pe_int (fun _ _ => rfl)) pe_int (fun _ _ => rfl)) (pps_cons pe_str (pe_ix ix_tup (pv 0) pe_int (fun _ _ => rfl)) (pps_cons pe_str (pe_ix ix_tup (pv 0) pe_int (fun _ _ => rfl)) (pps_cons pe_str (pv 1) (pps_cons pe_str (pv 2) pps_nil))))) rfl rfl (by decide) (by decide)))
    (C8.pss_cut (ps_expr (pe_bm PySem.F.plainAttrs_dict PySem.F.slot_dict_update PySem.F.type_dict_update mt_upd (pv 4) (pa_cons (pe_disp (pps_cons pe_str (pe_cl c_law_parts (hr.mono (by first | decide | omega)) rfl (pa_cons (pe_ix ix_tup (pv 0) pe_int (fun _ _ => rfl)) (pa_cons pe_non (pa_cons pe_dnewK pa_nil)))) (pps_cons pe_str (pv 3) (pps_cons pe_str pe_int (pps_cons pe_str pe_int pps_nil)))) rfl rfl (by decide) (by decide)) pa_nil)))
    (C8.pss_cut (ps_for PassesOwn.never rfl (pi_tup (pe_tup (pa_cons pe_str (pa_cons pe_str (pa_cons pe_str (pa_cons pe_str (pa_cons pe_str (pa_cons pe_str pa_nil)))))))) (pg_name (i := 5) sc_law_own.nd rfl (Or.inl rfl))
      (pss_one (ps_dput hu (pv 4) (pv 5) (pe_lst pa_nil) rfl)))
    (pss_cons (ps_asg (pe_tup (pa_cons pe_dnewK (pa_cons (pe_callTy (call_dictP rfl) (by rfl) T.m_dict (by decide +kernel) (pa_cons (pe_lock (pe_lc (own := [("_law_name", 6)]) rfl sc_law_own.nd (pi_keys (pe_dget hu (pv 4) pe_str (fun _ _ => rfl))) (blkOk_by (N := N_law_own) (sc := defScope s_law_own) (by decide +kernel)) (fun _ _ _ _ _ => (pg_name (i := 6) sc_law_own.nd rfl (Or.inl rfl))) (fun _ _ _ _ _ => pts_nil) (fun _ _ _ _ _ => (pe_tup (pa_cons (pv 6) (pa_cons pe_int pa_nil)))))) pa_nil)) pa_nil))) (pg_tup rfl (pgs_cons (pg_sub (pv 4) pe_str (set_dict hu)) (pgs_cons (pg_sub (pv 4) pe_str (set_dict hu)) pgs_nil))))
    (pss_one (ps_ret (pv 4))))))), ?_⟩
  obtain ⟨ws, ks, bx, ear, sh, g1, g2, g3, g4⟩ := id hp
  refine ⟨fun σ Hx => ∃ (h : Addr) (kv : List (Key × V)), σ = [some (.ref r), some (.int 18), some (.int 300), some (.bl false), some (.ref h), none, none] ∧ Hx h = some (.dK kv) ∧ kv.length ≤ 5 ∧ H h = none ∧ Same H Hx, ?_, ?_⟩
  · intro h h0
    have sm := same_new (o := .dK []) h0
    have hh : (upd H h (.dK [])) h = some (.dK []) := upd_same
    generalize upd H h (.dK []) = H1 at *
    have hr1 := sm _ _ hr0
    refine ⟨_, rfl, r, _, 0, _, rfl, rfl, SqT.of hr1, atI_nat (j := 0) rfl, p.a, _, 0, _, rfl, rfl, SqT.of (sm _ _ g1), atI_nat (j := 0) rfl, _, rfl, r, _, 1, _, rfl, rfl, SqT.of hr1, atI_nat (j := 1) rfl, _, rfl, r, _, 2, _, rfl, rfl, SqT.of hr1, atI_nat (j := 2) rfl, _, rfl, _, rfl, hh, ?_⟩
    refine ⟨[((Sum.inr ("top" : Str) : Key), .str p.nm), (Sum.inr ("beside" : Str), x), (Sum.inr ("heeds" : Str), y), (Sum.inr ("far" : Str), .int 18), (Sum.inr ("pause" : Str), .int 300)], rfl, (by show 5 ≤ 15; decide), ?_⟩
    refine ⟨h, _, rfl, upd_same, Nat.le_trans (length_mergeK _ _) (by show 0 + 5 ≤ 5; decide), h0, fun z o eo => ?_⟩
    rw [upd_ne (fun e => by rw [e, h0] at eo; cases eo)]
    exact sm _ _ eo
  rintro σ Hx ⟨h, kv, rfl, x1, x2, x3, x4⟩
  have hH := x3
  refine ⟨fun σ Hy => ∃ (fd : Addr) (kv : List (Key × V)) (Hs : Hp), σ = [some (.ref r), some (.int 18), some (.int 300), some (.bl false), some (.ref h), none, none] ∧ Hy h = some (.dK kv) ∧ kv.length ≤ 9 ∧ valV kv (Sum.inr "parts" : Key) = some (.ref fd) ∧ ((∃ o, Hs h = some o) ∧ Same H Hs ∧ LP Hs Hy fd (p.chs [])) ∧ H fd = none ∧ fd ≠ h ∧ Same H Hy, ?_, ?_⟩
  · refine ⟨_, rfl, .inr (.inr (.inl ⟨rfl, .inl ⟨_, x1⟩⟩)), ?_⟩
    intro m m0
    have sm := same_new (o := .dK []) m0
    have hm : (upd Hx m (.dK [])) m = some (.dK []) := upd_same
    generalize upd Hx m (.dK []) = H1 at *
    have s1 := x4.trans sm
    refine ⟨_, rfl, r, _, 0, _, rfl, rfl, SqT.of (s1 _ _ hr0), atI_nat (j := 0) rfl, ?_⟩
    intro fd fd0
    have sf := same_new (o := .dK []) fd0
    have hf : (upd H1 fd (.dK [])) fd = some (.dK []) := upd_same
    generalize upd H1 fd (.dK []) = H2 at *
    have s2 := s1.trans sf
    have fdH : H fd = none := by
      cases e : H fd with
      | none => rfl
      | some o => rw [s1 _ _ e] at fd0; cases fd0
    have hm2 := sf _ _ hm
    have hh2 := sf _ _ (sm _ _ x1)
    have fdm : m ≠ fd := ne_of_none hm fd0
    have fdh : h ≠ fd := ne_of_none (sm _ _ x1) fd0
    have hm' : h ≠ m := ne_of_none x1 m0
    refine ⟨H1, fd, p, [], [], rfl, hp.tp (Tp.same s2), ⟨[], hf, rfl, fun _ z => nomatch z⟩, sf, fd0, (fun _ _ z => nomatch z), nd, (by show 0 + _ ≤ 100; omega), fun H3 l3 f3 => ?_⟩
    have hm3 := f3 _ _ hm2 (by simpa using fdm)
    have hh3 := f3 _ _ hh2 (by simpa using fdh)
    have s3 : Same H H3 := fun z o eo => f3 z o (s2 _ _ eo) (by simp; rintro rfl; rw [fdH] at eo; cases eo)
    refine ⟨_, rfl, hm3, [((Sum.inr ("parts" : Str) : Key), .ref fd), (Sum.inr ("guesses" : Str), .bl false), (Sum.inr ("now" : Str), .int 0), (Sum.inr ("count" : Str), .int 0)], rfl, (by show 4 ≤ 15; decide), ?_⟩
    have mN : H m = none := by
      cases e : H m with
      | none => rfl
      | some o => rw [x4 _ _ e] at m0; cases m0
    rw [mm_is]
    have f4 : Fr [m] H3 (upd H3 m (.dK [((Sum.inr ("parts" : Str) : Key), .ref fd), (Sum.inr ("guesses" : Str), .bl false), (Sum.inr ("now" : Str), .int 0), (Sum.inr ("count" : Str), .int 0)])) := Fr.put (by simp)
    have hm4 : (upd H3 m (.dK [((Sum.inr ("parts" : Str) : Key), .ref fd), (Sum.inr ("guesses" : Str), .bl false), (Sum.inr ("now" : Str), .int 0), (Sum.inr ("count" : Str), .int 0)])) m = some (.dK [((Sum.inr ("parts" : Str) : Key), .ref fd), (Sum.inr ("guesses" : Str), .bl false), (Sum.inr ("now" : Str), .int 0), (Sum.inr ("count" : Str), .int 0)]) := upd_same
    have n4 := Nd.put (k2 := [((Sum.inr ("parts" : Str) : Key), .ref fd), (Sum.inr ("guesses" : Str), .bl false), (Sum.inr ("now" : Str), .int 0), (Sum.inr ("count" : Str), .int 0)]) hm3
    generalize upd H3 m (.dK [((Sum.inr ("parts" : Str) : Key), .ref fd), (Sum.inr ("guesses" : Str), .bl false), (Sum.inr ("now" : Str), .int 0), (Sum.inr ("count" : Str), .int 0)]) = H4 at *
    have hh4 := f4 _ _ hh3 (by simpa using hm')
    refine ⟨h, m, _, _, rfl, rfl, hm', hh4, hm4, sz (by show kv.length + 4 ≤ 100000; omega), ?_⟩
    have n5 := Nd.put (k2 := mergeK kv [((Sum.inr ("parts" : Str) : Key), .ref fd), (Sum.inr ("guesses" : Str), .bl false), (Sum.inr ("now" : Str), .int 0), (Sum.inr ("count" : Str), .int 0)]) hh4
    have f5 : Fr [h] H4 (upd H4 h (.dK (mergeK kv [((Sum.inr ("parts" : Str) : Key), .ref fd), (Sum.inr ("guesses" : Str), .bl false), (Sum.inr ("now" : Str), .int 0), (Sum.inr ("count" : Str), .int 0)]))) := Fr.put (by simp)
    have f45 := (f4.mono (S' := [m, h]) (by simp)).trans (f5.mono (S' := [m, h]) (by simp))
    refine ⟨fd, _, H1, rfl, upd_same, Nat.le_trans (length_mergeK _ _) (by show kv.length + 4 ≤ 9; omega), upd_parts, ⟨⟨_, sm _ _ x1⟩, s1, ?_⟩, fdH, fdh.symm, ?_⟩
    · refine l3.keep f45 (n4.trans n5).tp fun s hs => ?_
      simp at hs
      rcases hs with rfl | rfl
      · exact ⟨fdm, .inl ⟨_, hm⟩⟩
      · exact ⟨fdh, .inl ⟨_, sm _ _ x1⟩⟩
    · intro z o eo
      refine f45 z o (s3 _ _ eo) ?_
      simp
      exact ⟨fun e => (by rw [e, mN] at eo; cases eo), fun e => (by rw [e, x3] at eo; cases eo)⟩
  clear x1 x2 x4 kv
  rintro σ Hy ⟨fd, kv, Hs, rfl, y1, y2, y3, ⟨ho, sHs, y4⟩, y5, y6, y7⟩
  refine ⟨fun σ Hz => ∃ (gl : Addr) (kv : List (Key × V)) (k5 : Option V), σ = [some (.ref r), some (.int 18), some (.int 300), some (.bl false), some (.ref h), k5, none] ∧ Hz h = some (.dK kv) ∧ kv.length ≤ 15 ∧ valV kv (Sum.inr "parts" : Key) = some (.ref fd) ∧ valV kv (Sum.inr "gone" : Key) = some (.ref gl) ∧ Hz gl = some (.lst []) ∧ H gl = none ∧ LP Hs Hz fd (p.chs []) ∧ Same H Hz, ?_, ?_⟩
  · refine ⟨(by show 6 ≤ sizeLine; decide), ?_⟩
    (intro tt tt0; generalize hh_ : upd _ tt _ = Ha; have htt := upd_is hh_; have sa := same_is hh_ tt0; clear hh_)
    refine ⟨tt, rfl, ⟨_, SqT.of htt⟩, for_tup (K := K) (a := tt) (xs := [.str "gone", .str "away", .str "strokes", .str "hopes", .str "waits", .str "told"]) (fun i σ Hz => ∃ (kv : List (Key × V)) (k5 : Option V), σ = [some (.ref r), some (.int 18), some (.int 300), some (.bl false), some (.ref h), k5, none] ∧ Hz h = some (.dK kv) ∧ kv.length ≤ 9 + i ∧ valV kv (Sum.inr "parts" : Key) = some (.ref fd) ∧ (1 ≤ i → ∃ gl, valV kv (Sum.inr "gone" : Key) = some (.ref gl) ∧ Hz gl = some (.lst []) ∧ H gl = none) ∧ LP Hs Hz fd (p.chs []) ∧ Same H Hz ∧ Tp Ha Hz) ?_ (fun i σ Hz _ ⟨_, _, _, _, _, _, _, _, _, z⟩ => SqT.of (z _ _ htt)) ?_ ?_⟩
    · exact ⟨kv, none, rfl, sa _ _ y1, y2, y3, (fun z => absurd z (by decide)), y4.same sa, y7.trans sa, Tp.refl _⟩
    · rintro i v Hσ Hz hi ⟨kv, k5, rfl, z1, z2, z3, z4, z5, z6, z7⟩
      have li : i < 6 := (List.getElem?_eq_some_iff.mp hi).1
      obtain ⟨wd, rfl, w1, w2, w3⟩ := six hi
      refine ⟨(by show 0 ≤ sizeLine; decide), ?_⟩
      (intro gl gl0; generalize hh_ : upd _ gl _ = Hb; have hgl := upd_is hh_; have sb := same_is hh_ gl0; clear hh_)
      have zb := sb _ _ z1
      refine ⟨_, rfl, _, rfl, h, _, rfl, DPut.k (k := Sum.inr wd) zb (small100 (by omega)), ?_⟩
      have f5 : Fr [h] Hb (upd Hb h (.dK (putK kv (Sum.inr wd : Key) (.ref gl)))) := Fr.put (by simp)
      have n5 := Nd.put (k2 := putK kv (Sum.inr wd : Key) (.ref gl)) zb
      have glh : gl ≠ h := (ne_of_none z1 gl0).symm
      have glH : H gl = none := by
        cases e : H gl with
        | none => rfl
        | some o => rw [z6 _ _ e] at gl0; cases gl0
      refine ⟨_, _, rfl, upd_same, Nat.le_trans (length_putK _ _ _) (by omega), ?_, ?_, ?_, ?_, z7.trans ((Tp.same sb).trans n5.tp)⟩
      · rw [valV_put, if_neg (fun e => w1 (Sum.inr.inj e).symm)]
        exact z3
      · intro _
        by_cases e0 : i = 0
        · refine ⟨gl, ?_, f5 _ _ hgl (by simpa using glh), glH⟩
          rw [valV_put, if_pos (by rw [w2 e0])]
        · obtain ⟨g', q1, q2, q3⟩ := z4 (by omega)
          refine ⟨g', ?_, f5 _ _ (sb _ _ q2) (by simp; rintro rfl; rw [z1] at q2; cases q2), q3⟩
          rw [valV_put, if_neg (fun e => w3 (by omega) (Sum.inr.inj e).symm)]
          exact q1
      · refine (z5.same sb).keep f5 n5.tp fun s hs => ?_
        rw [List.mem_singleton.mp hs]
        exact ⟨y6.symm, .inl ho⟩
      · intro z o eo
        exact f5 _ _ (sb _ _ (z6 _ _ eo)) (by simp; rintro rfl; rw [hH] at eo; cases eo)
    · rintro σ Hz ⟨kv, k5, rfl, z1, z2, z3, z4, z5, z6, z7⟩
      obtain ⟨gl, q1, q2, q3⟩ := z4 (by show 1 ≤ 6; decide)
      exact ⟨gl, kv, _, rfl, z1, z2, z3, q1, q2, q3, z5, z6⟩
  clear y1 y2 y3 y4 y7 kv
  rintro σ Hz ⟨gl, kv, k5, rfl, z1, z2, z3, z4, z5, z6, z7, z8⟩
  obtain ⟨kvs, l1, l2, l3⟩ := id z7
  intro d0 d00
  have s1 := same_new (o := .dK []) d00
  generalize upd Hz d0 (.dK []) = H1 at *
  have l11 := s1 _ _ l1
  refine ⟨fd, _, l11, trivial, fun od => ?_⟩
  have dz : fd ≠ h := y6
  have hl1 : (upd H1 fd (.frz od (.dK kvs))) h = some (.dK kv) := by rw [upd_ne dz.symm]; exact s1 _ _ z1
  have hl2 : (upd H1 fd (.frz od (.dK kvs))) fd = some (.frz od (.dK kvs)) := upd_same
  have hl3 : ∀ q, q ≠ fd → (upd H1 fd (.frz od (.dK kvs))) q = H1 q := fun q e => upd_ne e
  generalize hHl : upd H1 fd (.frz od (.dK kvs)) = Hl at *
  refine ⟨_, rfl, h, _, rfl, (by have := DGet.k (k := Sum.inr "parts") hl1; rw [z3] at this; exact this), fd, od, rfl, .inl ⟨kvs, hl2, fun dd hdd => ?_⟩⟩
  have dd0 : Hl dd = none := hdd
  have lk : kvs.length = (p.chs []).length := by
    have := congrArg List.length l2
    unfold keysOf at this
    rw [List.length_map, List.length_map] at this
    exact this
  have ln : (p.chs []).length = p.nms.length := by rw [← hn_chs p [], List.length_map]
  refine lc_it (walk_keys (d := fd) (o := od) (kvs := kvs)) (fun i Hy => ∃ ps : List Addr, Hy dd = some (.lst (ps.map V.ref)) ∧ PairsI Hy ps (((p.chs []).map hn).take i) (fun _ => 0) ∧ ps.length = i ∧ Same Hl Hy) ?_ (fun i Hy _ ⟨_, _, _, _, sy⟩ => sy _ _ hl2) ?_ ?_
  · exact ⟨[], upd_same, .nil, rfl, same_new dd0⟩
  · rintro i v Hy Hy' hi ⟨ps, w1, w2, w3, w4⟩ ⟨rfl, kk, vv, ek, rfl⟩
    obtain ⟨nm, rfl, en⟩ := key_at l2 ek
    refine ⟨rfl, ?_⟩
    refine ⟨_, rfl, (by show 2 ≤ sizeLine; decide), ?_⟩
    (intro q q0; generalize hh_ : upd _ q _ = Hq; have hq := upd_is hh_; have sq := same_is hh_ q0; clear hh_)
    refine ⟨ps.map V.ref, sq _ _ w1, (by rw [List.length_map]; exact small100 (by omega)), ps ++ [q], by rw [upd_same, List.map_append]; rfl, ?_, by rw [List.length_append, w3]; rfl, ?_⟩
    · rw [take_snoc en]
      have tpp : Tp Hq (upd Hq dd (.lst (ps.map V.ref ++ [V.ref q]))) := Tp.putL (sq _ _ w1)
      exact PairsI.snoc (f := fun _ => 0) (tpp _ _ hq) (w2.tp ((Tp.same sq).trans tpp))
    · intro z o eo
      rw [upd_ne (fun e => by rw [e, dd0] at eo; cases eo)]
      exact sq _ _ (w4 _ _ eo)
  · rintro Hy ⟨ps, w1, w2, w3, w4⟩
    refine ⟨w4 _ _ hl2, ?_⟩
    have dfd : dd ≠ fd := fun e => by rw [e, hl2] at dd0; cases dd0
    have tu : Tp Hy (upd Hy fd (.dK kvs)) := fun b xs e => by
      rw [upd_ne (fun z => by rw [z, w4 _ _ hl2] at e; cases e)]
      exact e
    have su : Same H1 (upd Hy fd (.dK kvs)) := fun q o e => by
      by_cases z : q = fd
      · subst z
        rw [l11] at e
        cases e
        exact upd_same
      · rw [upd_ne z]
        exact w4 _ _ (by rw [hl3 q z]; exact e)
    have wd : (upd Hy fd (.dK kvs)) dd = some (.lst (ps.map V.ref)) := by rw [upd_ne dfd]; exact w1
    have w2' := w2.tp tu
    generalize upd Hy fd (.dK kvs) = Hu at *
    have tk : ((p.chs []).map hn).take kvs.length = (p.chs []).map hn := by
      rw [List.take_of_length_le]
      rw [List.length_map]
      omega
    rw [tk] at w2'
    refine ⟨dd, ps, _, rfl, SqL.of wd, w2'.kv, ?_⟩
    rw [kvI_self (by rw [hn_chs]; exact nd)]
    (intro sp sp0; generalize hh_ : upd _ sp _ = Hv; have hsp := upd_is hh_; have sv := same_is hh_ sp0; clear hh_)
    refine ⟨(by show 2 ≤ sizeLine; decide), ?_⟩
    (intro q q0; generalize hh_ : upd _ q _ = Hw; have hq := upd_is hh_; have sw := same_is hh_ q0; clear hh_)
    have s1w := su.trans (sv.trans sw)
    have hh := s1w _ _ (s1 _ _ z1)
    refine ⟨q, _, rfl, SqT.of hq, rfl, ?_⟩
    refine ⟨_, _, rfl, _, rfl, h, _, rfl, DPut.k (k := Sum.inr "down") hh (small100 (by omega)), ?_⟩
    have lp1 := length_putK kv (Sum.inr "down" : Key) (.ref d0)
    refine ⟨_, _, rfl, _, rfl, h, _, rfl, DPut.k (k := Sum.inr "spots") upd_same (small100 (by omega)), rfl, ?_⟩
    have n1 := Nd.put (k2 := putK kv (Sum.inr "down" : Key) (.ref d0)) hh
    have n2 := Nd.put (a := h) (k2 := putK (putK kv (Sum.inr "down" : Key) (.ref d0)) (Sum.inr "spots" : Key) (.ref sp)) (H := upd Hw h (.dK (putK kv (Sum.inr "down" : Key) (.ref d0)))) upd_same
    have ff : Fr [h] Hw (upd (upd Hw h (.dK (putK kv (Sum.inr "down" : Key) (.ref d0)))) h (.dK (putK (putK kv (Sum.inr "down" : Key) (.ref d0)) (Sum.inr "spots" : Key) (.ref sp)))) := (Fr.put (by simp)).trans (Fr.put (by simp))
    have hf : (upd (upd Hw h (.dK (putK kv (Sum.inr "down" : Key) (.ref d0)))) h (.dK (putK (putK kv (Sum.inr "down" : Key) (.ref d0)) (Sum.inr "spots" : Key) (.ref sp)))) h = some (.dK (putK (putK kv (Sum.inr "down" : Key) (.ref d0)) (Sum.inr "spots" : Key) (.ref sp))) := upd_same
    have tf := n1.tp.trans n2.tp
    generalize upd (upd Hw h (.dK (putK kv (Sum.inr "down" : Key) (.ref d0)))) h (.dK (putK (putK kv (Sum.inr "down" : Key) (.ref d0)) (Sum.inr "spots" : Key) (.ref sp))) = Hf at *
    have sz1 := s1.trans s1w
    have sph : sp ≠ h := (ne_of_none (su _ _ (s1 _ _ z1)) sp0).symm
    have spf : sp ≠ fd := (ne_of_none (su _ _ (s1 _ _ l1)) sp0).symm
    have spH : H sp = none := by
      cases e : H sp with
      | none => rfl
      | some o => rw [su _ _ (s1 _ _ (z8 _ _ e))] at sp0; cases sp0
    have glh : gl ≠ h := fun e => by rw [e, z1] at z5; cases z5
    refine ⟨_, rfl, k Hf h fd sp gl ⟨⟨_, hf, ?_, ?_, ?_⟩, ff _ _ (sz1 _ _ z5) (by simpa using glh), hH, z6⟩ ?_ (ff _ _ (sw _ _ hsp) (by simpa using sph)) ?_ ⟨y5, spH⟩ ⟨y6, sph, spf⟩⟩
    · rw [valV_put, if_neg (by intro e; exact absurd (Sum.inr.inj e) (by decide +kernel)), valV_put, if_neg (by intro e; exact absurd (Sum.inr.inj e) (by decide +kernel))]
      exact z3
    · rw [valV_put, if_pos rfl]
    · rw [valV_put, if_neg (by intro e; exact absurd (Sum.inr.inj e) (by decide +kernel)), valV_put, if_neg (by intro e; exact absurd (Sum.inr.inj e) (by decide +kernel))]
      exact z4
    · refine ((z7.same sz1).keep ff tf fun s hs => ?_).weak sHs
      rw [List.mem_singleton.mp hs]
      exact ⟨y6.symm, .inl ho⟩
    · intro z o eo
      exact ff _ _ (sz1 _ _ (z8 _ _ eo)) (by simp; rintro rfl; rw [hH] at eo; cases eo)
end
end SG
namespace SG
open PySem PySem.Spec PyProof.Rows L2
/-! all shelved -/
def Full (p : Tr) : Prop := ∀ c, ∀ ch ∈ p.chs c, (hs ch).isSome = true
theorem mem_chsL {c : Ch} {ch : Ch} : ∀ {ks : List Tr}, ch ∈ chsL c ks → ∃ k ∈ ks, ch ∈ k.chs c
  | [], h => nomatch h
  | p :: r, h => by
    rcases List.mem_append.mp (show ch ∈ p.chs c ++ chsL c r from h) with h | h
    · exact ⟨p, List.mem_cons_self, h⟩
    · obtain ⟨k, hk, e⟩ := mem_chsL h
      exact ⟨k, List.mem_cons_of_mem _ hk, e⟩
theorem Full.mk {a : Addr} {nm : Str} {s : Bool × Int × Int} {ks : List Tr} (h : ∀ k ∈ ks, Full k) : Full (.mk a nm (some s) ks) := fun c ch hc => by
  rcases List.mem_cons.mp (show ch ∈ ((nm, some s) :: c) :: chsL ((nm, some s) :: c) ks from hc) with rfl | hc
  · rfl
  · obtain ⟨k, hk, e⟩ := mem_chsL hc
    exact h k hk _ ch e
theorem no63 : ¬ (HT.sIx 6 0 none = 0 ∧ HT.sIx 6 6 (some 3) = 6) := by decide
theorem no645 : ¬ (HT.sIx 6 0 (some 4) = 0 ∧ HT.sIx 6 6 (some 5) = 6) := by decide
def spShelved (d : Nat) : Sp := fun vs H Q _ => ∃ (t c : Addr) (n : Nat) (p : Tr), vs = [.ref t, .ref p.a] ∧ TapeAt H t c n ∧ PtAt H d p ∧ p.nms.length ≤ 100 ∧ n + 3 * p.nms.length ≤ 900000000 ∧
  ∀ (p' : Tr) H', PtAt H' d p' → p'.nms = p.nms → Full p' → TapeAt H' t c (n + 3 * p.nms.length) → Fr [t] H H' → Q (.ref p'.a) H'
section
variable {P : Program} {w : World} {K : PySem.W.Frag} {mg : Str → Option Value} {base : Heap}
theorem ok_shelved {d : Nat} (D : Df K mg "_law_shelved" s_law_shelved ["_law_tape", "_law_part"]) (T : Txt K mg) (c_law_draw : Cl P w K mg base 1 "_law_draw" spDraw) (c_law_pick : Cl P w K mg base 2 "_law_pick" (spPick K)) (c_law_shelved : Cl P w K mg base (d + 2) "_law_shelved" (spShelved d)) : Cl P w K mg base (d + 3) "_law_shelved" (spShelved (d + 1)) := by
  refine D.ok sc_law_shelved (fun vs H Q E h => ?_) (fun f cdv A outer s H vs Q E hr h => ?_)
  · obtain ⟨_, _, _, _, rfl, _⟩ := h
    rfl
  obtain ⟨t, c, n, p, rfl, hT, hp, few, big, k⟩ := h
  refine ⟨_, -- _law_inner = tuple([_law_shelved(_law_tape, _law_one) for _law_one in _law_part[5]])
    (pss_cons (ps_set (i := 2) sc_law_shelved.nd rfl (Or.inl rfl) (pe_tupleOf rfl T.m_tuple (pe_lc (own := [("_law_one", 5)]) rfl sc_law_shelved.nd (pi_tup (pe_ix ix_tup (pv 1) pe_int (fun _ _ => rfl))) (blkOk_by (N := N_law_shelved) (sc := defScope s_law_shelved) (by decide +kernel)) (fun _ _ _ _ _ => (pg_name (i := 5) sc_law_shelved.nd rfl (Or.inl rfl))) (fun _ _ _ _ _ => pts_nil) (fun _ _ _ _ _ => (pe_cl c_law_shelved (hr.mono (by first | decide | omega)) rfl (pa_cons (pv 0) (pa_cons (pv 5) pa_nil)))))))
    (pss_cons (ps_par (i := 3) (j := 4) rfl sc_law_shelved.nd rfl rfl (by decide) rfl rfl (pa_cons (pe_cl c_law_pick (hr.mono (by first | decide | omega)) rfl (pa_cons (pv 0) (pa_cons (pe_lst (pa_cons pe_str (pa_cons pe_str pa_nil))) pa_nil))) (pa_cons (pe_cl c_law_pick (hr.mono (by first | decide | omega)) rfl (pa_cons (pv 0) (pa_cons (pe_lst (pa_cons pe_int (pa_cons pe_int (pa_cons pe_int (pa_cons pe_int pa_nil))))) pa_nil))) pa_nil)) rfl)
    (pss_one (ps_ret (pe_op op_catA (pe_op op_catA (pe_op op_catA (pe_slice sl_tupA (pv 1) po_none (po_some pe_int)) (pe_tup (pa_cons (pe_tup (pa_cons (pv 3) (pa_cons (pe_op op_sub pe_int (pe_cl c_law_draw (hr.mono (by first | decide | omega)) rfl (pa_cons (pv 0) (pa_cons pe_int pa_nil)))) (pa_cons (pv 4) pa_nil)))) pa_nil))) (pe_slice sl_tupA (pv 1) (po_some pe_int) (po_some pe_int))) (pe_tup (pa_cons (pv 2) pa_nil))))))), ?_⟩
  obtain ⟨ws, ks, bx, ear, sh, h1, h2, h3, h4⟩ := hp
  refine ⟨_, rfl, p.a, _, 5, _, rfl, rfl, SqT.of h1, atI_nat (j := 5) rfl, ks, rfl, ⟨_, SqT.of h3⟩, fun dd hdd => ?_⟩
  have dd0 : H dd = none := hdd
  have pn : p.nms.length = (nmsT p.ks).length + 1 := by rw [nms_eq, List.length_cons]
  refine lc_tup (K := K) (a := ks) (xs := p.ks.map fun k => V.ref k.a) (fun i Hx => ∃ fs : List Tr, Hx dd = some (.lst (fs.map fun k => V.ref k.a)) ∧ fs.length = i ∧ nmsT fs = nmsT (p.ks.take i) ∧ (∀ k ∈ fs, PtAt Hx d k ∧ Full k) ∧ TapeAt Hx t c (n + 3 * (nmsT (p.ks.take i)).length) ∧ Fr [t] H Hx) ?_ ?_ ?_ ?_
  · exact ⟨[], upd_same, rfl, rfl, (fun _ h => nomatch h), hT.same (same_new dd0), Fr.new dd0⟩
  · rintro i Hx _ ⟨fs, _, _, _, _, _, fx⟩
    exact SqT.of (hT.tp fx _ _ h3)
  · rintro i x Hx hi ⟨fs, x1, x2, x3, x4, x5, fx⟩
    rw [List.getElem?_map] at hi
    obtain ⟨q, hq, rfl⟩ := Option.map_eq_some_iff.mp hi
    have hq' := nmsT_at hq
    have pl : (nmsT (p.ks.take (i + 1))).length = (nmsT (p.ks.take i)).length + q.nms.length := by
      rw [take_snoc hq, nmsT_app, List.length_append]
      show _ + (q.nms ++ []).length = _
      rw [List.append_nil]
    have tot : (nmsT p.ks).length = (nmsT (p.ks.take i)).length + (q.nms.length + (nmsT (p.ks.drop (i + 1))).length) := by rw [hq', List.length_append, List.length_append]
    refine ⟨rfl, ?_⟩
    refine ⟨_, rfl, _, rfl, t, c, _, q, rfl, x5, (h4 q (List.mem_of_getElem? hq)).tp (hT.tp fx), by omega, by omega, fun q' Hy g1 g2 g3 g4 g5 => ?_⟩
    have hdt : dd ≠ t := hT.ne_new dd0
    have hdc : dd ≠ c := hT.ne_newc dd0
    have y1 := g5 _ _ x1 (by simpa using hdt)
    have tpp : Tp Hy (upd Hy dd (.lst (fs.map (fun k => V.ref k.a) ++ [V.ref q'.a]))) := Tp.putL y1
    have lsum : fs.length ≤ 100 := by
      have := lenT p.ks
      have hi' := (List.getElem?_eq_some_iff.mp hq).1
      omega
    refine ⟨fs.map (fun k => V.ref k.a), y1, (by rw [List.length_map]; exact small100 lsum), fs ++ [q'], by rw [upd_same, List.map_append]; rfl, by rw [List.length_append, x2]; rfl, ?_, ?_, ?_, ?_⟩
    · rw [take_snoc hq, nmsT_app, nmsT_app, x3]
      show _ ++ (q'.nms ++ []) = _ ++ (q.nms ++ [])
      rw [g2]
    · intro k hk
      rcases List.mem_append.mp hk with hk | hk
      · exact ⟨((x4 k hk).1.tp (x5.tp g5)).tp tpp, (x4 k hk).2⟩
      · rw [List.mem_singleton.mp hk]
        exact ⟨g1.tp tpp, g3⟩
    · rw [pl]
      exact (g4.put hdt hdc).mono (by omega)
    · intro z o eo nz
      rw [upd_ne (fun h => by rw [h, dd0] at eo; cases eo)]
      exact (fx.trans g5) z o eo nz
  · rintro Hx ⟨fs, x1, x2, x3, x4, x5, fx⟩
    rw [List.length_map, List.take_length] at x3 x5
    have lsum : fs.length ≤ 100 := by
      have := lenT p.ks
      rw [List.length_map] at x2
      omega
    refine .inl ⟨dd, _, rfl, SqL.of x1, ?_⟩
    (intro kt kt0; generalize hh_ : upd _ kt _ = Hy; have hkt := upd_is hh_; have sy := same_is hh_ kt0; clear hh_)
    have f0 : Fr [t] H Hy := fx.trans (Fr.same sy _)
    have Ty := x5.same sy
    refine ⟨_, rfl, (by show 2 ≤ sizeLine; decide), pick_new Ty (by omega) ⟨by decide, by decide⟩ fun v1 Hz hv1 Tz fz => ?_⟩
    refine ⟨_, rfl, (by show 4 ≤ sizeLine; decide), pick_new Tz (by omega) ⟨by decide, by decide⟩ fun v2 Hu hv2 Tu fu => ?_⟩
    obtain ⟨b, rfl⟩ : ∃ b, v1 = .str (wayS b) := by
      simp only [List.mem_cons, List.not_mem_nil, or_false] at hv1
      rcases hv1 with rfl | rfl
      · exact ⟨true, rfl⟩
      · exact ⟨false, rfl⟩
    obtain ⟨z2, rfl, z20⟩ : ∃ z : Int, v2 = .int z ∧ (0 ≤ z ∧ z ≤ 10000) := by
      simp only [List.mem_cons, List.not_mem_nil, or_false] at hv2
      rcases hv2 with rfl | rfl | rfl | rfl <;> exact ⟨_, rfl, by decide, by decide⟩
    refine ⟨_, _, rfl, ?_⟩
    have fu' : Fr [t] H Hu := f0.trans (fz.trans fu)
    have h1u := hT.tp fu' _ _ h1
    refine ⟨_, rfl, _, rfl, ?_⟩
    refine ⟨p.a, _, rfl, SqT.of h1u, fun q => absurd q no63, fun _ => ?_⟩
    (intro a1 a10; generalize hh_ : upd _ a1 _ = G1; have ha1 := upd_is hh_; have t1 := same_is hh_ a10; clear hh_)
    refine ⟨_, rfl, _, rfl, t, c, _, _, rfl, Tu.same t1, by decide, by omega, fun z G2 hz T2 g2 => ?_⟩
    refine ⟨_, _, rfl, rfl, _, rfl, (by show 3 ≤ sizeLine; decide), ?_⟩
    (intro a2 a20; generalize hh_ : upd _ a2 _ = G3; have ha2 := upd_is hh_; have t3 := same_is hh_ a20; clear hh_)
    refine ⟨(by show 1 ≤ sizeLine; decide), ?_⟩
    (intro a3 a30; generalize hh_ : upd _ a3 _ = G4; have ha3 := upd_is hh_; have t4 := same_is hh_ a30; clear hh_)
    have ha14 := (t4 _ _ (t3 _ _ ((Tu.same t1).tp g2 _ _ ha1)))
    refine ⟨a1, a3, _, _, rfl, rfl, SqT.of ha14, SqT.of ha3, (by show 4 ≤ sizeLine; decide), (fun h => nomatch h), (fun _ h => nomatch h), fun _ _ => ?_⟩
    (intro a4 a40; generalize hh_ : upd _ a4 _ = G5; have ha4 := upd_is hh_; have t5 := same_is hh_ a40; clear hh_)
    have fG : Fr [t] H G5 := fu'.trans ((Fr.same t1 _).trans (g2.trans ((Fr.same t3 _).trans ((Fr.same t4 _).trans (Fr.same t5 _)))))
    refine ⟨_, rfl, _, rfl, _, rfl, p.a, _, rfl, SqT.of (hT.tp fG _ _ h1), fun q => absurd q no645, fun _ => ?_⟩
    (intro a5 a50; generalize hh_ : upd _ a5 _ = G6; have ha5 := upd_is hh_; have t6 := same_is hh_ a50; clear hh_)
    refine ⟨a4, a5, _, _, rfl, rfl, SqT.of (t6 _ _ ha4), SqT.of ha5, (by show 5 ≤ sizeLine; decide), (fun h => nomatch h), (fun _ h => nomatch h), fun _ _ => ?_⟩
    (intro a6 a60; generalize hh_ : upd _ a6 _ = G7; have ha6 := upd_is hh_; have t7 := same_is hh_ a60; clear hh_)
    refine ⟨_, rfl, (by show 1 ≤ sizeLine; decide), ?_⟩
    (intro a7 a70; generalize hh_ : upd _ a7 _ = G8; have ha7 := upd_is hh_; have t8 := same_is hh_ a70; clear hh_)
    refine ⟨a6, a7, _, _, rfl, rfl, SqT.of (t8 _ _ ha6), SqT.of ha7, (by show 6 ≤ sizeLine; decide), (fun h => nomatch h), (fun _ h => nomatch h), fun _ _ => ?_⟩
    (intro a8 a80; generalize hh_ : upd _ a8 _ = G9; have ha8 := upd_is hh_; have t9 := same_is hh_ a80; clear hh_)
    have s49 : Same G4 G9 := t5.trans (t6.trans (t7.trans (t8.trans t9)))
    have tx9 : Tp Hx G9 := (Tp.same sy).trans ((Ty.tp fz).trans ((Tz.tp fu).trans ((Tp.same t1).trans (((Tu.same t1).tp g2).trans ((Tp.same (t3.trans t4)).trans (Tp.same s49))))))
    have ty9 : Tp Hy G9 := (Ty.tp fz).trans ((Tz.tp fu).trans ((Tp.same t1).trans (((Tu.same t1).tp g2).trans ((Tp.same (t3.trans t4)).trans (Tp.same s49)))))
    refine k (.mk a8 p.nm (some (b, 0 - z, z2)) fs) G9 ⟨ws, kt, bx, ear, .ref a2, ha8, ⟨⟨a2, rfl, s49 _ _ (t4 _ _ ha2)⟩, (by omega), z20⟩, ty9 _ _ hkt, fun q hq => (x4 q hq).1.tp tx9⟩ ?_ (Full.mk fun q hq => (x4 q hq).2) ?_ ?_
    · rw [nms_eq p, ← x3]
      rfl
    · exact ((T2.same (t3.trans t4)).same s49).mono (by omega)
    · exact fG.trans (Fr.same (t6.trans (t7.trans (t8.trans t9))) _)
theorem all_shelved (D : Df K mg "_law_shelved" s_law_shelved ["_law_tape", "_law_part"]) (T : Txt K mg) (c_law_draw : Cl P w K mg base 1 "_law_draw" spDraw) (c_law_pick : Cl P w K mg base 2 "_law_pick" (spPick K)) : ∀ d : Nat, Cl P w K mg base (d + 2) "_law_shelved" (spShelved d)
  | 0 => (D.none fun _ _ _ _ h => by
      obtain ⟨_, _, _, _, _, _, z, _⟩ := h
      exact z).mono (Nat.zero_le _)
  | d + 1 => ok_shelved D T c_law_draw c_law_pick (all_shelved D T c_law_draw c_law_pick d)
end
end SG
namespace SG
open PySem PySem.Spec PyProof.Rows L2
/-! ### a step is whole -/
/-- all shelved, and within their ledges -/
def InB (f : Str → Int) (ch : Ch) : Prop := ∀ x ∈ ch, ∃ w i j, x.2 = some (w, i, j) ∧ (i ≤ 0 ∧ 0 ≤ j) ∧ i ≤ f x.1 ∧ f x.1 ≤ j
theorem InB.tail {f : Str → Int} {x : Str × Sh} {r : Ch} (h : InB f (x :: r)) : InB f r := fun y hy => h y (List.mem_cons_of_mem _ hy)
theorem fset_ne {f : Str → Int} {n m : Str} {z : Int} (h : m ≠ n) : fset f n z m = f m := if_neg h
theorem InB.fset {f : Str → Int} {n : Str} {z : Int} {r : Ch} (h : InB f r) (nn : n ∉ r.map (·.1)) : InB (fset f n z) r := fun y hy => by
  obtain ⟨w, i, j, a, b, c⟩ := h y hy
  refine ⟨w, i, j, a, b, ?_⟩
  rw [fset_ne (fun e => nn (by rw [← e]; exact List.mem_map.mpr ⟨y, hy, rfl⟩))]
  exact c
theorem tk_other (b : Bool) : ∀ (ch : Ch) (l : Int) (f : Str → Int) (n : Str), n ∉ ch.map (·.1) → (tk b ch l f).2.2 n = f n
  | [], _, _, _, _ => rfl
  | (m, none) :: r, l, f, n, h => tk_other b r l f n (fun z => h (List.mem_cons_of_mem _ z))
  | (m, some (w, i, j)) :: r, l, f, n, h => by
    have hr : n ∉ r.map (·.1) := fun z => h (List.mem_cons_of_mem _ z)
    have hm : n ≠ m := fun z => h (by rw [z]; exact List.mem_cons_self)
    unfold tk
    split
    · show (tk b r _ (fset f m _)).2.2 n = _
      rw [tk_other b r _ _ n hr, fset_ne hm]
    · exact tk_other b r l f n hr
/-- those that ask the other way stay -/
theorem tk_way (b : Bool) : ∀ (ch : Ch) (l : Int) (f : Str → Int), (ch.map (·.1)).Nodup → ∀ n w i j, (n, some (w, i, j)) ∈ ch → w ≠ b → (tk b ch l f).2.2 n = f n
  | [], _, _, _, _, _, _, _, h, _ => nomatch h
  | (m, none) :: r, l, f, nd, n, w, i, j, h, hw => by
    rcases List.mem_cons.mp h with e | h
    · cases e
    · exact tk_way b r l f (List.nodup_cons.mp nd).2 n w i j h hw
  | (m, some (w', i', j')) :: r, l, f, nd, n, w, i, j, h, hw => by
    have nd' := List.nodup_cons.mp nd
    unfold tk
    rcases List.mem_cons.mp h with e | h
    · cases e
      rw [if_neg (fun z => hw z.1)]
      exact tk_other b r l f _ nd'.1
    · have hn : n ≠ m := fun z => nd'.1 (by show m ∈ r.map (·.1); rw [← z]; exact List.mem_map.mpr ⟨_, h, rfl⟩)
      split
      · show (tk b r _ (fset f m _)).2.2 n = _
        rw [tk_way b r _ _ nd'.2 n w i j h hw, fset_ne hn]
      · exact tk_way b r l f nd'.2 n w i j h hw
theorem goal_in {i j x : Int} (h : i ≤ 0 ∧ 0 ≤ j) : i ≤ goal i j x ∧ goal i j x ≤ j := by
  unfold goal
  omega
theorem tk_in (b : Bool) : ∀ (ch : Ch) (l : Int) (f : Str → Int), (ch.map (·.1)).Nodup → InB f ch → InB (tk b ch l f).2.2 ch
  | [], _, _, _, _ => fun _ h => nomatch h
  | (m, none) :: r, l, f, nd, h => by
    obtain ⟨_, _, _, z, _⟩ := h _ List.mem_cons_self
    cases z
  | (m, some (w, i, j)) :: r, l, f, nd, h => by
    have nd' := List.nodup_cons.mp nd
    obtain ⟨_, _, _, z, hij, hf⟩ := h _ List.mem_cons_self
    cases z
    unfold tk
    split
    · intro y hy
      rcases List.mem_cons.mp hy with rfl | hy
      · refine ⟨w, i, j, rfl, hij, ?_⟩
        show i ≤ (tk b r _ (fset f m _)).2.2 m ∧ _
        rw [tk_other b r _ _ m nd'.1, fset_same]
        exact goal_in hij
      · exact tk_in b r _ _ nd'.2 (h.tail.fset nd'.1) y hy
    · intro y hy
      rcases List.mem_cons.mp hy with rfl | hy
      · refine ⟨w, i, j, rfl, hij, ?_⟩
        show i ≤ (tk b r l f).2.2 m ∧ _
        rw [tk_other b r _ _ m nd'.1]
        exact hf
      · exact tk_in b r _ _ nd'.2 h.tail y hy
/-- the rows are those that changed -/
theorem tk_rows (b : Bool) : ∀ (ch : Ch) (l : Int) (f : Str → Int), (ch.map (·.1)).Nodup →
    (tk b ch l f).1 = ((ch.map (·.1)).filter fun n => decide ((tk b ch l f).2.2 n ≠ f n)).map fun n => (n, (tk b ch l f).2.2 n - f n, (tk b ch l f).2.2 n)
  | [], _, _, _ => rfl
  | (m, none) :: r, l, f, nd => by
    have nd' := List.nodup_cons.mp nd
    show (tk b r l f).1 = List.map _ (List.filter _ (m :: r.map (·.1)))
    rw [List.filter_cons_of_neg (by simp; exact tk_other b r l f m nd'.1)]
    exact tk_rows b r l f nd'.2
  | (m, some (w, i, j)) :: r, l, f, nd => by
    have nd' := List.nodup_cons.mp nd
    show _ = List.map _ (List.filter _ (m :: r.map (·.1)))
    unfold tk
    split
    · rename_i hc
      have e1 : (tk b r (l - (goal i j (f m + l) - f m)) (fset f m (goal i j (f m + l)))).2.2 m = goal i j (f m + l) := by rw [tk_other b r _ _ m nd'.1, fset_same]
      have ih := tk_rows b r (l - (goal i j (f m + l) - f m)) (fset f m (goal i j (f m + l))) nd'.2
      generalize tk b r (l - (goal i j (f m + l) - f m)) (fset f m (goal i j (f m + l))) = R at *
      show (m, _, _) :: R.1 = _
      rw [List.filter_cons_of_pos (by simp; show R.2.2 m ≠ f m; rw [e1]; exact hc.2), List.map_cons]
      show _ = (m, R.2.2 m - f m, R.2.2 m) :: _
      rw [e1, ih]
      congr 1
      have fe : ∀ n ∈ r.map (·.1), fset f m (goal i j (f m + l)) n = f n := fun n hn => fset_ne (fun z => nd'.1 (by rw [← z]; exact hn))
      have ff : (r.map (·.1)).filter (fun n => decide (R.2.2 n ≠ fset f m (goal i j (f m + l)) n)) = (r.map (·.1)).filter (fun n => decide (R.2.2 n ≠ f n)) := List.filter_congr fun n hn => by rw [fe n hn]
      rw [ff]
      refine List.map_congr_left fun n hn => ?_
      rw [fe n (List.mem_filter.mp hn).1]
    · rw [List.filter_cons_of_neg (by simp; exact tk_other b r l f m nd'.1)]
      exact tk_rows b r l f nd'.2
/-- what the law's walk outward asks: b the way, F before, G after -/
def Good (b : Bool) (step left : Int) (F G : Str → Int) : Ch → Int → Bool → Prop
  | [], took, op => took + left = step ∧ (left = 0 ∨ op = false)
  | (_, none) :: _, _, _ => False
  | (n, some (w, i, j)) :: r, took, op => let more := if w = b then G n - F n else 0
    ¬ (more * step < 0) ∧ ¬ (op = true ∧ more ≠ 0) ∧ (i ≤ G n ∧ G n ≤ j) ∧
    Good b step left F G r (took + more) (op || (decide (w = b) && decide (G n ≠ if 0 < step then j else i)))
def Sg (step l : Int) : Prop := (0 < step ∧ 0 ≤ l) ∨ (step < 0 ∧ l ≤ 0) ∨ (step = 0 ∧ l = 0)
theorem mul_sg {s x : Int} (h : Sg s x) : ¬ (x * s < 0) := by
  rcases h with ⟨a, b⟩ | ⟨a, b⟩ | ⟨a, b⟩
  · exact Int.not_lt.mpr (Int.mul_nonneg b (by omega))
  · exact Int.not_lt.mpr (Int.mul_nonneg_of_nonpos_of_nonpos b (by omega))
  · rw [b]; simp
theorem good_tk (b : Bool) (step left : Int) (F G : Str → Int) : ∀ (r : Ch) (l took : Int) (op : Bool) (f : Str → Int), (r.map (·.1)).Nodup → InB f r → (∀ n w i j, (n, some (w, i, j)) ∈ r → w = b → F n = f n ∧ G n = (tk b r l f).2.2 n) →
    (∀ n w i j, (n, some (w, i, j)) ∈ r → i ≤ G n ∧ G n ≤ j) → left = (tk b r l f).2.1 → took + l = step → (op = true → l = 0) → Sg step l → Good b step left F G r took op
  | [], l, took, op, f, _, _, _, _, hl, ht, ho, _ => by
    have : left = l := hl
    subst this
    refine ⟨ht, ?_⟩
    cases op with
    | true => exact .inl (ho rfl)
    | false => exact .inr rfl
  | (m, none) :: r, l, took, op, f, _, h, _, _, _, _, _, _ => by
    obtain ⟨_, _, _, z, _⟩ := h _ List.mem_cons_self
    cases z
  | (m, some (w, i, j)) :: r, l, took, op, f, nd, h, hFG, hG, hl, ht, ho, sg => by
    have nd' := List.nodup_cons.mp nd
    obtain ⟨_, _, _, z, hij, hf⟩ := h _ List.mem_cons_self
    cases z
    have hf' : i ≤ f m ∧ f m ≤ j := hf
    have hg := hG m w i j List.mem_cons_self
    have nn : ∀ n w i j, (n, some (w, i, j)) ∈ r → n ≠ m := fun n w i j hm z => nd'.1 (by show m ∈ r.map (·.1); rw [← z]; exact List.mem_map.mpr ⟨_, hm, rfl⟩)
    unfold Good
    by_cases hw : w = b
    · subst hw
      obtain ⟨hF, hGm⟩ := hFG m w i j List.mem_cons_self rfl
      rw [if_pos rfl]
      by_cases hc : goal i j (f m + l) ≠ f m
      · have e : tk w ((m, some (w, i, j)) :: r) l f = ((m, goal i j (f m + l) - f m, goal i j (f m + l)) :: (tk w r (l - (goal i j (f m + l) - f m)) (fset f m (goal i j (f m + l)))).1, (tk w r (l - (goal i j (f m + l) - f m)) (fset f m (goal i j (f m + l)))).2) := by
          conv => lhs; unfold tk
          rw [if_pos ⟨rfl, hc⟩]
        rw [e] at hGm hl hFG
        have g0 : G m = goal i j (f m + l) := by
          rw [hGm]
          show (tk w r _ (fset f m _)).2.2 m = _
          rw [tk_other w r _ _ m nd'.1, fset_same]
        rw [hF, g0]
        have sm : Sg step (goal i j (f m + l) - f m) ∧ Sg step (l - (goal i j (f m + l) - f m)) ∧ (l = 0 → goal i j (f m + l) - f m = 0) ∧ (goal i j (f m + l) ≠ (if 0 < step then j else i) → l - (goal i j (f m + l) - f m) = 0) := by
          unfold Sg goal at *
          rcases sg with ⟨s1, s2⟩ | ⟨s1, s2⟩ | ⟨s1, s2⟩
          · rw [if_pos s1]; refine ⟨?_, ?_, ?_, ?_⟩ <;> omega
          · rw [if_neg (by omega)]; refine ⟨?_, ?_, ?_, ?_⟩ <;> omega
          · rw [if_neg (by omega)]; refine ⟨?_, ?_, ?_, ?_⟩ <;> omega
        refine ⟨mul_sg sm.1, fun ⟨o, z⟩ => z (sm.2.2.1 (ho o)), by rw [← g0]; exact hg, ?_⟩
        refine good_tk w step left F G r _ _ _ (fset f m (goal i j (f m + l))) nd'.2 (h.tail.fset nd'.1) (fun n w' i' j' hm hw' => ?_) (fun n w' i' j' hm => hG n w' i' j' (List.mem_cons_of_mem _ hm)) hl (by omega) (fun o => ?_) sm.2.1
        · obtain ⟨a1, a2⟩ := hFG n w' i' j' (List.mem_cons_of_mem _ hm) hw'
          exact ⟨by rw [a1, fset_ne (nn n w' i' j' hm)], a2⟩
        · rw [Bool.or_eq_true, Bool.and_eq_true, decide_eq_true_iff, decide_eq_true_iff] at o
          rcases o with o | o
          · have := sm.2.2.1 (ho o); have := ho o; omega
          · exact sm.2.2.2 o.2
      · have hc' : goal i j (f m + l) = f m := Classical.not_not.mp hc
        have e : tk w ((m, some (w, i, j)) :: r) l f = tk w r l f := by
          conv => lhs; unfold tk
          rw [if_neg (fun z => z.2 hc')]
        rw [e] at hGm hl hFG
        have g0 : G m = f m := by rw [hGm, tk_other w r _ _ m nd'.1]
        rw [hF, g0, Int.sub_self]
        have sm : f m ≠ (if 0 < step then j else i) → l = 0 := by
          unfold Sg goal at *
          rcases sg with ⟨s1, s2⟩ | ⟨s1, s2⟩ | ⟨s1, s2⟩
          · rw [if_pos s1]; omega
          · rw [if_neg (by omega)]; omega
          · intro _; exact s2
        refine ⟨by simp, fun ⟨_, z⟩ => z rfl, hf', ?_⟩
        rw [Int.add_zero]
        refine good_tk w step left F G r _ _ _ f nd'.2 h.tail (fun n w' i' j' hm hw' => hFG n w' i' j' (List.mem_cons_of_mem _ hm) hw') (fun n w' i' j' hm => hG n w' i' j' (List.mem_cons_of_mem _ hm)) hl ht (fun o => ?_) sg
        rw [Bool.or_eq_true, Bool.and_eq_true, decide_eq_true_iff, decide_eq_true_iff] at o
        rcases o with o | o
        · exact ho o
        · exact sm o.2
    · have e : tk b ((m, some (w, i, j)) :: r) l f = tk b r l f := by
        conv => lhs; unfold tk
        rw [if_neg (fun z => hw z.1)]
      rw [e] at hl hFG
      rw [if_neg hw, decide_eq_false hw, Bool.false_and, Bool.or_false]
      refine ⟨by simp, fun ⟨_, z⟩ => z rfl, hg, ?_⟩
      rw [Int.add_zero]
      exact good_tk b step left F G r _ _ _ f nd'.2 h.tail (fun n w' i' j' hm hw' => hFG n w' i' j' (List.mem_cons_of_mem _ hm) hw') (fun n w' i' j' hm => hG n w' i' j' (List.mem_cons_of_mem _ hm)) hl ht ho sg
end SG
namespace SG
open PySem PySem.Spec PyProof.Rows L2
theorem ltCps_trans : ∀ (a b c : List Nat), ltCps b a = false → ltCps c b = false → ltCps c a = false
  | [], _, [], _, _ => rfl
  | [], [], _ :: _, _, _ => rfl
  | [], _ :: _, _ :: _, _, _ => rfl
  | a :: r, [], [], h, _ => by simp [ltCps] at h
  | a :: r, [], c :: t, h, _ => by simp [ltCps] at h
  | a :: r, b :: s, [], _, h => by simp [ltCps] at h
  | a :: r, b :: s, c :: t, h1, h2 => by
    simp only [ltCps, Bool.or_eq_false_iff, Bool.and_eq_false_iff, decide_eq_false_iff_not, beq_eq_false_iff_ne] at h1 h2 ⊢
    refine ⟨by omega, ?_⟩
    by_cases e : c = a
    · refine .inr (ltCps_trans r s t ?_ ?_)
      · rcases h1.2 with q | q
        · omega
        · exact q
      · rcases h2.2 with q | q
        · omega
        · exact q
    · exact .inl e
theorem ltCps_anti : ∀ (a b : List Nat), ltCps a b = false → ltCps b a = false → a = b
  | [], [], _, _ => rfl
  | [], _ :: _, h, _ => by simp [ltCps] at h
  | _ :: _, [], _, h => by simp [ltCps] at h
  | a :: r, b :: s, h1, h2 => by
    simp only [ltCps, Bool.or_eq_false_iff, Bool.and_eq_false_iff, decide_eq_false_iff_not, beq_eq_false_iff_ne] at h1 h2
    have e : a = b := by omega
    subst e
    rw [ltCps_anti r s (h1.2.resolve_left fun z => z rfl) (h2.2.resolve_left fun z => z rfl)]
def LeS (a b : Str) : Prop := ltCps b.cps.toList a.cps.toList = false
theorem LeS.anti {a b : Str} (h1 : LeS a b) (h2 : LeS b a) : a = b := by
  have := ltCps_anti _ _ h2 h1
  cases a; cases b
  congr 1
  exact Array.toList_inj.mp this
theorem rising_all : ∀ (l : List Str) (p : Str), risingS p l = true → (p :: l).Pairwise LeS
  | [], p, _ => List.pairwise_singleton _ _
  | x :: r, p, h => by
    have h' : (!ltCps x.cps.toList p.cps.toList && risingS x r) = true := h
    rw [Bool.and_eq_true, Bool.not_eq_true'] at h'
    have ih := rising_all r x h'.2
    refine List.pairwise_cons.mpr ⟨fun y hy => ?_, ih⟩
    rcases List.mem_cons.mp hy with rfl | hy
    · exact h'.1
    · exact ltCps_trans _ _ _ h'.1 ((List.pairwise_cons.mp ih).1 y hy)
theorem sorted_all {l : List Str} (h : sortedS l = true) : l.Pairwise LeS := by
  cases l with
  | nil => exact List.Pairwise.nil
  | cons x r => exact rising_all r x h
theorem sorted_eq : ∀ (xs ys : List Str), xs.Pairwise LeS → ys.Pairwise LeS → xs.Nodup → ys.Nodup → (∀ z, z ∈ xs ↔ z ∈ ys) → xs = ys
  | [], [], _, _, _, _, _ => rfl
  | [], y :: _, _, _, _, _, h => nomatch (h y).mpr List.mem_cons_self
  | x :: _, [], _, _, _, _, h => nomatch (h x).mp List.mem_cons_self
  | x :: xs, y :: ys, h1, h2, n1, n2, h => by
    have p1 := List.pairwise_cons.mp h1
    have p2 := List.pairwise_cons.mp h2
    have e : x = y := by
      rcases List.mem_cons.mp ((h x).mp List.mem_cons_self) with q | q
      · exact q
      · rcases List.mem_cons.mp ((h y).mpr List.mem_cons_self) with q' | q'
        · exact q'.symm
        · exact LeS.anti (p1.1 y q') (p2.1 x q)
    subst e
    have m1 := List.nodup_cons.mp n1
    have m2 := List.nodup_cons.mp n2
    rw [sorted_eq xs ys p1.2 p2.2 m1.2 m2.2 fun z => ⟨fun q => ?_, fun q => ?_⟩]
    · rcases List.mem_cons.mp ((h z).mp (List.mem_cons_of_mem _ q)) with e | q'
      · rw [e] at q; exact absurd q m1.1
      · exact q'
    · rcases List.mem_cons.mp ((h z).mpr (List.mem_cons_of_mem _ q)) with e | q'
      · rw [e] at q; exact absurd q m2.1
      · exact q'
theorem sorted_same {xs xs' ys zs : List Str} (p1 : ys.Perm xs) (p2 : zs.Perm xs') (s1 : sortedS ys = true) (s2 : sortedS zs = true) (n1 : xs.Nodup) (n2 : xs'.Nodup) (h : ∀ z, z ∈ xs ↔ z ∈ xs') : ys = zs :=
  sorted_eq ys zs (sorted_all s1) (sorted_all s2) (p1.nodup_iff.mpr n1) (p2.nodup_iff.mpr n2) fun z => by rw [p1.mem_iff, p2.mem_iff, h]
section
variable {ch : Ch} {dx dy : Int} {f : Str → Int}
theorem all_some (h : InB f ch) {n : Str} (hn : n ∈ ch.map (·.1)) : ∃ w i j, (n, some (w, i, j)) ∈ ch := by
  obtain ⟨⟨m, s⟩, hx, rfl⟩ := List.mem_map.mp hn
  obtain ⟨w, i, j, e, _⟩ := h _ hx
  cases e
  exact ⟨w, i, j, hx⟩
theorem stp_or (nd : (ch.map (·.1)).Nodup) (hb : InB f ch) {n : Str} (hn : n ∈ ch.map (·.1)) : (stp ch dx dy f).2.2 n = (tk true ch dx f).2.2 n ∨ (tk true ch dx f).2.2 n = f n := by
  obtain ⟨w, i, j, hm⟩ := all_some hb hn
  cases w with
  | true => exact .inl (tk_way false ch dy _ nd n true i j hm (by decide))
  | false => exact .inr (tk_way true ch dx f nd n false i j hm (by decide))
theorem stp_other {n : Str} (hn : n ∉ ch.map (·.1)) : (stp ch dx dy f).2.2 n = f n := by
  show (tk false ch dy (tk true ch dx f).2.2).2.2 n = _
  rw [tk_other false ch _ _ n hn, tk_other true ch _ _ n hn]
theorem stp_row (nd : (ch.map (·.1)).Nodup) (hb : InB f ch) : ∀ x ∈ (stp ch dx dy f).1, x.1 ∈ ch.map (·.1) ∧ x.2.1 = (stp ch dx dy f).2.2 x.1 - f x.1 ∧ x.2.2 = (stp ch dx dy f).2.2 x.1 := by
  intro x hx
  rcases List.mem_append.mp (show x ∈ (tk true ch dx f).1 ++ (tk false ch dy (tk true ch dx f).2.2).1 from hx) with hx | hx
  · rw [tk_rows true ch dx f nd] at hx
    obtain ⟨n, hn, rfl⟩ := List.mem_map.mp hx
    obtain ⟨h1, h2⟩ := List.mem_filter.mp hn
    rcases stp_or (dx := dx) (dy := dy) nd hb h1 with e | e
    · exact ⟨h1, by show _ = _ - f n; rw [e], by show _ = _; rw [e]⟩
    · exact absurd e (of_decide_eq_true h2)
  · rw [tk_rows false ch dy _ nd] at hx
    obtain ⟨n, hn, rfl⟩ := List.mem_map.mp hx
    obtain ⟨h1, h2⟩ := List.mem_filter.mp hn
    rcases stp_or (dx := dx) (dy := dy) nd hb h1 with e | e
    · exact absurd e (of_decide_eq_true h2)
    · refine ⟨h1, ?_, rfl⟩
      show _ - (tk true ch dx f).2.2 n = _ - f n
      rw [e]
      rfl
theorem stp_names (nd : (ch.map (·.1)).Nodup) (hb : InB f ch) : ((stp ch dx dy f).1.map (·.1)).Nodup ∧ ∀ n, n ∈ (stp ch dx dy f).1.map (·.1) ↔ (stp ch dx dy f).2.2 n ≠ f n := by
  have e : (stp ch dx dy f).1.map (·.1) = (ch.map (·.1)).filter (fun n => decide ((tk true ch dx f).2.2 n ≠ f n)) ++ (ch.map (·.1)).filter (fun n => decide ((stp ch dx dy f).2.2 n ≠ (tk true ch dx f).2.2 n)) := by
    show ((tk true ch dx f).1 ++ (tk false ch dy (tk true ch dx f).2.2).1).map (·.1) = _
    rw [List.map_append, tk_rows true ch dx f nd, tk_rows false ch dy _ nd, List.map_map, List.map_map]
    congr 1
    · exact List.map_id _
    · exact List.map_id _
  rw [e]
  refine ⟨List.nodup_append.mpr ⟨nd.filter _, nd.filter _, fun a ha b hb' e => ?_⟩, fun n => ?_⟩
  · subst e
    obtain ⟨h1, h2⟩ := List.mem_filter.mp ha
    obtain ⟨_, h3⟩ := List.mem_filter.mp hb'
    rcases stp_or (dx := dx) (dy := dy) nd hb h1 with e | e
    · exact of_decide_eq_true h3 e
    · exact of_decide_eq_true h2 e
  · rw [List.mem_append, List.mem_filter, List.mem_filter]
    constructor
    · rintro (⟨h1, h2⟩ | ⟨h1, h2⟩)
      · rcases stp_or (dx := dx) (dy := dy) nd hb h1 with e | e
        · rw [e]; exact of_decide_eq_true h2
        · exact absurd e (of_decide_eq_true h2)
      · rcases stp_or (dx := dx) (dy := dy) nd hb h1 with e | e
        · exact absurd e (of_decide_eq_true h2)
        · rw [← e]; exact of_decide_eq_true h2
    · intro ne
      by_cases h1 : n ∈ ch.map (·.1)
      · rcases stp_or (dx := dx) (dy := dy) nd hb h1 with e | e
        · exact .inl ⟨h1, decide_eq_true (by rw [← e]; exact ne)⟩
        · exact .inr ⟨h1, decide_eq_true (by rw [e]; exact ne)⟩
      · exact absurd (stp_other h1) ne
theorem stp_in (nd : (ch.map (·.1)).Nodup) (hb : InB f ch) : InB (stp ch dx dy f).2.2 ch := tk_in false ch dy _ nd (tk_in true ch dx f nd hb)
theorem Sg.self (s : Int) : Sg s s := by
  unfold Sg
  omega
theorem good_a (nd : (ch.map (·.1)).Nodup) (hb : InB f ch) : Good true dx (stp ch dx dy f).2.1.1 f (stp ch dx dy f).2.2 ch 0 false := by
  refine good_tk true dx _ f _ ch dx 0 false f nd hb (fun n w i j hm hw => ?_) (fun n w i j hm => ?_) rfl (by omega) (fun z => nomatch z) (Sg.self dx)
  · subst hw
    exact ⟨rfl, tk_way false ch dy _ nd n true i j hm (by decide)⟩
  · obtain ⟨w', i', j', e, _, h⟩ := stp_in (dx := dx) (dy := dy) nd hb _ hm
    cases e
    exact h
theorem good_b (nd : (ch.map (·.1)).Nodup) (hb : InB f ch) : Good false dy (stp ch dx dy f).2.1.2 f (stp ch dx dy f).2.2 ch 0 false := by
  refine good_tk false dy _ f _ ch dy 0 false (tk true ch dx f).2.2 nd (tk_in true ch dx f nd hb) (fun n w i j hm hw => ?_) (fun n w i j hm => ?_) rfl (by omega) (fun z => nomatch z) (Sg.self dy)
  · subst hw
    exact ⟨(tk_way true ch dx f nd n false i j hm (by decide)).symm, rfl⟩
  · obtain ⟨w', i', j', e, _, h⟩ := stp_in (dx := dx) (dy := dy) nd hb _ hm
    cases e
    exact h
end
end SG
namespace SG
open PySem PySem.Spec PyProof.Rows L2
def spWhole : Sp := fun vs H Q _ => ∃ (H0 : Hp) (fd wd nd : Addr) (b : Bool) (step left : Int) (ch : Ch) (es : List Ch) (ns : List Str) (F G : Str → Int), vs = [.ref fd, .str (hn ch), .str (wayS b), .int step, .ref wd, .ref nd, .int left] ∧ LP H0 H fd es ∧ H wd = some (.dK (kvI ns F)) ∧ H nd = some (.dK (kvI ns G)) ∧ (-20000 ≤ step ∧ step ≤ 20000) ∧
  ch ∈ es ∧ Closed es ∧ (∀ n ∈ es.map hn, n ∈ ns) ∧ Good b step left F G ch 0 false ∧ ∀ H', Same H H' → Q (.bl true) H'
def spAbout : Sp := fun vs H Q _ => ∃ (H0 : Hp) (h fd sp0 gl : Addr) (ch : Ch) (es : List Ch), vs = [.ref h, .str (hn ch)] ∧ HeldAt H0 H h fd sp0 gl ∧ LP H0 H fd es ∧ ch ∈ es ∧ Closed es ∧ ch.length ≤ 20 ∧
  ∀ H' p, H p = none → H' p = some (.lst ((ch.map (·.1)).map V.str)) → Same H H' → Q (.ref p) H'
theorem Good.open {b op : Bool} {step left took : Int} {F G : Str → Int} {n : Str} {s : Sh} {r : Ch} (h : Good b step left F G ((n, s) :: r) took op) : ∃ w i j, s = some (w, i, j) ∧
    ∃ more : Int, more = (if w = b then G n - F n else 0) ∧ ¬ (more * step < 0) ∧ ¬ (op = true ∧ more ≠ 0) ∧ (i ≤ G n ∧ G n ≤ j) ∧ Good b step left F G r (took + more) (op || (decide (w = b) && decide (G n ≠ if 0 < step then j else i))) := by
  match s, h with
  | some (w, i, j), h => exact ⟨w, i, j, rfl, _, rfl, h⟩
  | none, h => exact h.elim
theorem orV_mk {a b : TE} {σ : L2.St} {H : Hp} {Q : VK} {c d : Bool} (ha : ∀ Q1 : VK, Q1 (.bl c) H → a σ H Q1) (hb : ∀ Q1 : VK, Q1 (.bl d) H → b σ H Q1) (q : Q (.bl (c || d)) H) : tOrV a b σ H Q := by
  refine ha _ ⟨_, rfl, ?_⟩
  cases c with
  | true => exact q
  | false => exact hb _ q
theorem andV_mk {a b : TE} {σ : L2.St} {H : Hp} {Q : VK} {c d : Bool} (ha : ∀ Q1 : VK, Q1 (.bl c) H → a σ H Q1) (hb : ∀ Q1 : VK, Q1 (.bl d) H → b σ H Q1) (q : Q (.bl (c && d)) H) : tAndV a b σ H Q := by
  refine ha _ ⟨_, rfl, ?_⟩
  cases c with
  | true => exact hb _ q
  | false => exact q
theorem dec_ne_int {a b : Int} : (!decide (V.int a = V.int b)) = decide (a ≠ b) := by
  rw [Bool.eq_iff_iff]
  simp
section
variable {P : Program} {w : World} {K : PySem.W.Frag} {mg : Str → Option Value} {base : Heap}
theorem ok_whole (D : Df K mg "_law_is_whole" s_law_is_whole ["_law_parts_here", "_law_name", "_law_way", "_law_step", "_law_was", "_law_now", "_law_left"]) (T : Txt K mg) : Cl P w K mg base 1 "_law_is_whole" spWhole := by
  refine D.ok sc_law_is_whole (fun vs H Q E h => ?_) (fun ff cdv A outer s H vs Q E hr h => ?_)
  · obtain ⟨_, _, _, _, _, _, _, _, _, _, _, _, rfl, _⟩ := h
    rfl
  obtain ⟨H0, fd, wd, nd, b, step, left, ch, es, ns, F, G, rfl, hL, hW, hN, hst, hch, hcl, hns, hG, k⟩ := h
  have hu := hu_of hr
  refine ⟨_, -- _law_took, _law_is_open = (0, False)
    (pss_cons (ps_asg (pe_tup (pa_cons pe_int (pa_cons pe_bl pa_nil))) (pg_tup rfl (pgs_cons (pg_name (i := 7) sc_law_is_whole.nd rfl (Or.inl rfl)) (pgs_cons (pg_name (i := 8) sc_law_is_whole.nd rfl (Or.inl rfl)) pgs_nil))))
    (pss_cons (ps_while PassesOwn.never (pt_cmp (pc_notN (pv 1)))
      (pss_cons (ps_asg (pe_dget hu (pe_dget hu (pv 0) (pv 1) (fun _ _ => rfl)) pe_str (fun _ _ => rfl)) (pg_tup rfl (pgs_cons (pg_name (i := 9) sc_law_is_whole.nd rfl (Or.inl rfl)) (pgs_cons (pg_name (i := 10) sc_law_is_whole.nd rfl (Or.inl rfl)) (pgs_cons (pg_name (i := 11) sc_law_is_whole.nd rfl (Or.inl rfl)) pgs_nil)))))
      (pss_cons (ps_set (i := 12) sc_law_is_whole.nd rfl (Or.inl rfl) (pe_ifExp (pt_cmpR op_eq (pv 9) (pv 2) (nomark _)) (pe_op op_sub (pe_dget hu (pv 5) (pv 1) (fun _ _ => rfl)) (pe_dget hu (pv 4) (pv 1) (fun _ _ => rfl))) pe_int))
      (pss_cons (ps_if (PW.pt (pw_or (pt_cmpR op_lt (pe_op op_mul (pv 12) (pv 3)) pe_int (nomark _)) (pw_or (PW.pt (pw_and (pt_val (pv 8)) (pw_and1 (pt_cmpR op_ne (pv 12) pe_int (nomark _))))) (pw_or1 (pt_not (pt_chain op_le op_le (pv 10) (pe_dget hu (pv 5) (pv 1) (fun _ _ => rfl)) (pv 11)))))))
        (pss_one (ps_ret pe_bl))
        pss_nil)
      (pss_cons (ps_set (i := 7) sc_law_is_whole.nd rfl (Or.inl rfl) (pe_op op_add (pv 7) (pv 12)))
      (pss_cons (ps_set (i := 8) sc_law_is_whole.nd rfl (Or.inl rfl) (pe_or (pv 8) (pe_one (pe_and (pe_cmpR op_eq (pv 9) (pv 2) (nomark _)) (pe_one (pe_cmpR op_ne (pe_dget hu (pv 5) (pv 1) (fun _ _ => rfl)) (pe_ifExp (pt_cmpR op_gt (pv 3) pe_int (nomark _)) (pv 11) (pv 10)) (nomark _)))))))
      (pss_one (ps_set (i := 1) sc_law_is_whole.nd rfl (Or.inl rfl) (pe_dget hu (pe_dget hu (pv 0) (pv 1) (fun _ _ => rfl)) pe_str (fun _ _ => rfl))))))))))
    (pss_one (ps_ret (pe_and (pe_cmpR op_eq (pe_op op_add (pv 7) (pv 6)) (pv 3) (nomark _)) (pe_one (pe_or (pe_cmpR op_eq (pv 6) pe_int (nomark _)) (pe_one (pe_not (pv 8)))))))))), ?_⟩
  refine ⟨(by show 2 ≤ sizeLine; decide), ?_⟩
  (intro pr pr0; generalize hh_ : upd _ pr _ = H1; have hpr := upd_is hh_; have s1 := same_is hh_ pr0; clear hh_)
  refine ⟨pr, _, rfl, SqT.of hpr, rfl, _, _, rfl, _, _, rfl, rfl, ?_⟩
  refine ⟨fun m σ Hy => ∃ (c : Ch) (took : Int) (op : Bool) (k9 k10 k11 k12 : Option V), σ = [some (.ref fd), some (ouV c), some (.str (wayS b)), some (.int step), some (.ref wd), some (.ref nd), some (.int left), some (.int took), some (.bl op), k9, k10, k11, k12] ∧ m = c.length ∧ (c ≠ [] → c ∈ es) ∧ Good b step left F G c took op ∧ H1 = Hy, ?_, ?_⟩
  · obtain ⟨kvs, _, _, h3⟩ := id hL
    obtain ⟨x, c, _, _, _, _, _, _, e1, _⟩ := h3 ch hch
    have eo : ouV ch = .str (hn ch) := by rw [e1]; rfl
    exact ⟨ch.length, ch, 0, false, _, _, _, _, by rw [eo]; rfl, rfl, fun _ => hch, hG, rfl⟩
  rintro m σ Hy ⟨c, took, op, k9, k10, k11, k12, rfl, rfl, y1, y2, rfl⟩
  cases c with
  | nil =>
    refine ⟨_, rfl, _, rfl, ite2 (fun z => absurd z (by simp [ouV])) fun _ => ?_⟩
    obtain ⟨ht, ho⟩ := y2
    refine ⟨_, rfl, _, rfl, _, _, rfl, rfl, _, rfl, rfl, _, rfl, ?_⟩
    rw [show decide (V.int (took + left) = V.int step) = true by rw [ht]; exact decide_eq_true rfl]
    refine iteT ⟨_, rfl, rfl, _, rfl, ?_⟩
    have fin : ∀ v : Bool, v = true → Q (.bl v) H1 := fun v hv => by rw [hv]; exact k _ s1
    rcases ho with z | z
    · subst z
      exact iteT (fin _ rfl)
    · subst z
      refine ite2 (fun _ => fin _ rfl) fun _ => ⟨_, rfl, _, rfl, fin _ rfl⟩
  | cons x c =>
    refine ⟨_, rfl, _, rfl, ite2 (fun _ => ?_) fun z => absurd (by simp [ouV]) z⟩
    refine ⟨fun σ' H' => ∃ m', m' < c.length + 1 ∧ ∃ (c : Ch) (took : Int) (op : Bool) (k9 k10 k11 k12 : Option V), σ' = [some (.ref fd), some (ouV c), some (.str (wayS b)), some (.int step), some (.ref wd), some (.ref nd), some (.int left), some (.int took), some (.bl op), k9, k10, k11, k12] ∧ m' = c.length ∧ (c ≠ [] → c ∈ es) ∧ Good b step left F G c took op ∧ H1 = H', fun σ' H' ⟨m', hm, z⟩ => ⟨m', hm, z⟩, ?_⟩
    obtain ⟨nm, sh⟩ := x
    obtain ⟨w', i, j, rfl, more, hmore, g1, g2, g3, g4⟩ := y2.open
    have mem := y1 (by simp)
    have memc : c ≠ [] → c ∈ es := (hcl _ mem).2 _ c rfl
    obtain ⟨kvs, l1, l2, l3⟩ := hL
    obtain ⟨x', c', e, q, bx, er, wi, inn, ec, e2, e3, e4, e5, e6⟩ := l3 _ mem
    obtain ⟨rfl, rfl⟩ := List.cons.inj ec
    have dge : DGet H1 fd (.str nm) (some (.ref e)) := by have := DGet.k (k := Sum.inr nm) (s1 _ _ l1); rw [e2] at this; exact this
    have dgl : DGet H1 e (.str "ledge") (some (.ref q)) := by have := DGet.k (k := Sum.inr "ledge") (s1 _ _ e5); rw [ent_ledge] at this; exact this
    have dgo : DGet H1 e (.str "outer") (some (ouV c)) := by have := DGet.k (k := Sum.inr "outer") (s1 _ _ e5); rw [ent_outer] at this; exact this
    have nmes : nm ∈ ns := hns _ (List.mem_map.mpr ⟨_, mem, rfl⟩)
    have dgw : DGet H1 wd (.str nm) (some (.int (F nm))) := by have := DGet.k (k := Sum.inr nm) (s1 _ _ hW); rw [kvI_val nmes] at this; exact this
    have dgn : DGet H1 nd (.str nm) (some (.int (G nm))) := by have := DGet.k (k := Sum.inr nm) (s1 _ _ hN); rw [kvI_val nmes] at this; exact this
    have e6' : H1 q = some (.tup [.str (wayS w'), .int i, .int j]) := s1 _ _ e6
    have ew : decide (V.str (wayS w') = V.str (wayS b)) = decide (w' = b) := by
      rw [dec_str]
      exact decide_eq_decide.mpr wayS_inj
    refine ⟨_, rfl, _, rfl, fd, _, rfl, dge, e, _, rfl, dgl, q, _, rfl, SqT.of e6', rfl, _, _, rfl, _, _, rfl, _, _, rfl, rfl, ?_⟩
    refine ⟨_, rfl, _, rfl, rfl, _, rfl, ?_⟩
    rw [ew]
    have k1 : decide (more * step < 0) = false := decide_eq_false g1
    have k2 : (op && !decide (V.int more = V.int 0)) = false := by
      rw [dec_ne_int]
      cases op with
      | false => rfl
      | true => exact decide_eq_false fun z => g2 ⟨rfl, z⟩
    clear g1 g2
    by_cases hw : w' = b
    rw [if_pos hw] at hmore
    subst hmore
    rw [decide_eq_true hw]
    refine iteT ⟨_, rfl, _, rfl, nd, _, rfl, dgn, _, rfl, _, rfl, wd, _, rfl, dgw, _, _, rfl, rfl, ?_⟩
    rotate_left
    rw [if_neg hw] at hmore
    subst hmore
    rw [decide_eq_false hw]
    refine iteF ?_
    all_goals
      refine ⟨_, rfl, _, rfl, _, _, rfl, rfl, .inr ⟨by omega, by omega⟩, _, _, rfl, rfl, _, rfl, ?_⟩
      rw [k1]
      refine iteF ?_
      refine or_mk (c := false) (d := false) (fun Q1 q => ?_) (fun Q1 q => ?_) ?_
      · refine and_mk (c := op) (fun Q2 q2 => ⟨_, rfl, _, rfl, q2⟩) (fun _ Q2 q2 => ⟨_, rfl, rfl, _, rfl, q2⟩) ?_
        rw [k2]
        exact q
      · refine ⟨_, rfl, _, rfl, _, rfl, nd, _, rfl, dgn, _, _, rfl, rfl, _, rfl, ?_⟩
        rw [decide_eq_true g3.1]
        refine iteT ⟨_, rfl, _, _, rfl, rfl, _, rfl, ?_⟩
        rw [decide_eq_true g3.2]
        exact q
      refine iteF ?_
      refine ⟨_, rfl, _, rfl, _, _, rfl, rfl, ?_⟩
      dsimp only [gName, List.set, tSeq, tAsg]
      refine orV_mk (c := op) (d := decide (w' = b) && decide (G nm ≠ if 0 < step then j else i)) (fun Q1 q => ⟨_, rfl, q⟩) (fun Q1 q => andV_mk (fun Q2 q2 => ⟨_, rfl, _, rfl, rfl, by rw [ew]; exact q2⟩) (fun Q2 q2 => ?_) q) ?_
      · refine ⟨_, rfl, _, rfl, nd, _, rfl, dgn, _, rfl, _, _, rfl, rfl, _, rfl, ite2 (fun z => ⟨_, rfl, rfl, ?_⟩) fun z => ⟨_, rfl, rfl, ?_⟩⟩
        · rw [dec_ne_int]
          rw [if_pos (of_decide_eq_true z)] at q2
          exact q2
        · rw [dec_ne_int]
          rw [if_neg (fun y => z (decide_eq_true y))] at q2
          exact q2
      refine ⟨_, rfl, _, rfl, fd, _, rfl, dge, e, _, rfl, dgo, ?_⟩
      exact ⟨c.length, by omega, c, _, _, _, _, _, _, rfl, rfl, memc, g4, rfl⟩
theorem ok_about (D : Df K mg "_law_about" s_law_about ["_law_held", "_law_name"]) (T : Txt K mg) : Cl P w K mg base 1 "_law_about" spAbout := by
  refine D.ok sc_law_about (fun vs H Q E h => ?_) (fun ff cdv A outer s H vs Q E hr h => ?_)
  · obtain ⟨_, _, _, _, _, _, _, rfl, _⟩ := h
    rfl
  obtain ⟨H0, h, fd, sp0, gl, ch, es, rfl, hH, hL, hch, hcl, chl, k⟩ := h
  have hu := hu_of hr
  refine ⟨_, -- _law_found = []
    (pss_cons (ps_set (i := 2) sc_law_about.nd rfl (Or.inl rfl) (pe_lst pa_nil))
    (pss_cons (ps_while PassesOwn.never (pt_cmp (pc_notN (pv 1)))
      (pss_cons (ps_expr (pe_bm PySem.F.plainAttrs_list PySem.F.slot_list_append PySem.F.type_list_append mt_append (pv 2) (pa_cons (pv 1) pa_nil)))
      (pss_one (ps_set (i := 1) sc_law_about.nd rfl (Or.inl rfl) (pe_dget hu (pe_dget hu (pe_dget hu (pv 0) pe_str (fun _ _ => rfl)) (pv 1) (fun _ _ => rfl)) pe_str (fun _ _ => rfl))))))
    (pss_one (ps_ret (pv 2))))), ?_⟩
  refine ⟨(by show 0 ≤ sizeLine; decide), ?_⟩
  intro fo fo0
  refine ⟨fun m σ Hy => ∃ (c : Ch) (ys : List Str), σ = [some (.ref h), some (ouV c), some (.ref fo)] ∧ m = c.length ∧ (c ≠ [] → c ∈ es) ∧ Hy fo = some (.lst (ys.map V.str)) ∧ ys ++ c.map (·.1) = ch.map (·.1) ∧ Same H Hy, ?_, ?_⟩
  · obtain ⟨kvs, _, _, h3⟩ := id hL
    obtain ⟨x, c, _, _, _, _, _, _, e1, _⟩ := h3 ch hch
    have eo : ouV ch = .str (hn ch) := by rw [e1]; rfl
    exact ⟨ch.length, ch, [], by rw [eo]; rfl, rfl, fun _ => hch, upd_same, rfl, same_new fo0⟩
  rintro m σ Hy ⟨c, ys, rfl, rfl, y1, y2, y3, y4⟩
  cases c with
  | nil =>
    refine ⟨_, rfl, _, rfl, ite2 (fun z => absurd z (by simp [ouV])) fun _ => ?_⟩
    rw [List.map_nil, List.append_nil] at y3
    exact ⟨_, rfl, k Hy fo fo0 (by rw [← y3]; exact y2) y4⟩
  | cons x c =>
    refine ⟨_, rfl, _, rfl, ite2 (fun _ => ?_) fun z => absurd (by simp [ouV]) z⟩
    refine ⟨fun σ' H' => ∃ m', m' < c.length + 1 ∧ ∃ (c : Ch) (ys : List Str), σ' = [some (.ref h), some (ouV c), some (.ref fo)] ∧ m' = c.length ∧ (c ≠ [] → c ∈ es) ∧ H' fo = some (.lst (ys.map V.str)) ∧ ys ++ c.map (·.1) = ch.map (·.1) ∧ Same H H', fun σ' H' ⟨m', hm, z⟩ => ⟨m', hm, z⟩, ?_⟩
    have mem := y1 (by simp)
    have memc : c ≠ [] → c ∈ es := (hcl _ mem).2 _ c rfl
    have ly : ys.length ≤ 20 := by
      have := congrArg List.length y3
      rw [List.length_append, List.length_map, List.length_map] at this
      omega
    refine ⟨_, rfl, .inl ⟨rfl, _, SqL.of y2⟩, _, rfl, fo, _, _, rfl, rfl, y2, (by rw [List.length_map]; exact small100 (by omega)), ?_⟩
    have s2 : Same H (upd Hy fo (.lst (ys.map V.str ++ [ouV (x :: c)]))) := fun q o e => by
      rw [upd_ne (ne_of_none e fo0)]
      exact y4 _ _ e
    have hf2 : (upd Hy fo (.lst (ys.map V.str ++ [ouV (x :: c)]))) fo = some (.lst ((ys ++ [x.1]).map V.str)) := by rw [upd_same, List.map_append]; rfl
    generalize upd Hy fo (.lst (ys.map V.str ++ [ouV (x :: c)])) = H2 at *
    obtain ⟨⟨kv, k1, k2, _⟩, _, _, _⟩ := hH
    obtain ⟨kvs, l1, l2, l3⟩ := hL
    obtain ⟨x', c', e, q, bx, er, wi, inn, ec, e2, e3, e4, e5, e6⟩ := l3 _ mem
    obtain ⟨rfl, rfl⟩ := List.cons.inj ec
    have dgp : DGet H2 h (.str "parts") (some (.ref fd)) := by have := DGet.k (k := Sum.inr "parts") (s2 _ _ k1); rw [k2] at this; exact this
    have dge : DGet H2 fd (.str x.1) (some (.ref e)) := by have := DGet.k (k := Sum.inr x.1) (s2 _ _ l1); rw [e2] at this; exact this
    have dgo : DGet H2 e (.str "outer") (some (ouV c)) := by have := DGet.k (k := Sum.inr "outer") (s2 _ _ e5); rw [ent_outer] at this; exact this
    refine ⟨_, rfl, h, _, rfl, dgp, _, rfl, fd, _, rfl, dge, e, _, rfl, dgo, ?_⟩
    exact ⟨c.length, by omega, c, ys ++ [x.1], rfl, rfl, memc, hf2, by rw [← y3, List.append_assoc]; rfl, s2⟩
end
end SG
namespace SG
open PySem PySem.Spec PyProof.Rows L2
theorem ent_ne {H : Hp} {e sp : Addr} {a b d x y : V} {q : Addr} {ns : List Str} {f : Str → Int} (h1 : H e = some (.dK (entD a b (.ref q) d x y))) (h2 : H sp = some (.dK (kvI ns f))) : e ≠ sp := fun z => by
  rw [z, h2] at h1
  have h3 : kvI ns f = entD a b (.ref q) d x y := by
    have h5 := Option.some.inj h1
    injection h5
  have h4 : valV (kvI ns f) (Sum.inr ("ledge" : Str) : Key) = some (.ref q) := by rw [h3]; exact ent_ledge
  by_cases m : ("ledge" : Str) ∈ ns
  · rw [kvI_val m] at h4; cases h4
  · rw [kvI_none m] at h4; cases h4
theorem hn_inj : ∀ {es : List Ch}, (es.map hn).Nodup → ∀ {a b : Ch}, a ∈ es → b ∈ es → hn a = hn b → a = b
  | [], _, _, _, h, _, _ => nomatch h
  | x :: r, nd, a, b, ha, hb, e => by
    have nd' := List.nodup_cons.mp (show (hn x :: r.map hn).Nodup from nd)
    rcases List.mem_cons.mp ha with ea | ma
    · rcases List.mem_cons.mp hb with eb | mb
      · rw [ea, eb]
      · exact absurd (by rw [← ea, e]; exact List.mem_map.mpr ⟨b, mb, rfl⟩) nd'.1
    · rcases List.mem_cons.mp hb with eb | mb
      · exact absurd (by rw [← eb, ← e]; exact List.mem_map.mpr ⟨a, ma, rfl⟩) nd'.1
      · exact hn_inj nd'.2 ma mb e
theorem ch_nodup {es : List Ch} (hcl : Closed es) (nd : (es.map hn).Nodup) : ∀ (ch : Ch), ch ∈ es → (ch.map (·.1)).Nodup
  | [], _ => List.nodup_nil
  | x :: c, h => by
    refine List.nodup_cons.mpr ⟨fun m => ?_, ?_⟩
    · obtain ⟨y, hy, e⟩ := List.mem_map.mp m
      obtain ⟨i, ei⟩ := List.getElem?_of_mem hy
      have hc : c ∈ es := (hcl _ h).2 _ c rfl (by rintro rfl; cases hy)
      have hs := suf_mem hcl hc ei
      have := congrArg List.length (hn_inj nd hs h e)
      rw [List.length_cons, List.length_cons, List.length_drop] at this
      have := (List.getElem?_eq_some_iff.mp ei).1
      omega
    · by_cases z : c = []
      · subst z; exact List.nodup_nil
      · exact ch_nodup hcl nd c ((hcl _ h).2 _ c rfl z)
theorem ent_inj {es : List Ch} (hcl : Closed es) (nd : (es.map hn).Nodup) {a b : Ch} (ha : a ∈ es) (hb : b ∈ es) {x y : Str × Sh} (hx : x ∈ a) (hy : y ∈ b) (e : x.1 = y.1) : x = y := by
  obtain ⟨r, h1⟩ := anc hcl ha hx
  obtain ⟨r', h2⟩ := anc hcl hb hy
  exact (List.cons.inj (hn_inj nd h1 h2 e)).1
def AllIn (f : Str → Int) (es : List Ch) : Prop := ∀ ch ∈ es, InB f ch
theorem AllIn.step {f : Str → Int} {es : List Ch} {ch : Ch} {dx dy : Int} (h : AllIn f es) (hcl : Closed es) (nd : (es.map hn).Nodup) (hc : ch ∈ es) : AllIn (stp ch dx dy f).2.2 es := fun c hc' x hx => by
  have nc := ch_nodup hcl nd ch hc
  by_cases m : x.1 ∈ ch.map (·.1)
  · obtain ⟨y, hy, e⟩ := List.mem_map.mp m
    obtain rfl : y = x := ent_inj hcl nd hc hc' hy hx e
    exact stp_in nc (h ch hc) y hy
  · obtain ⟨w, i, j, a, b, d⟩ := h c hc' x hx
    refine ⟨w, i, j, a, b, ?_⟩
    rw [stp_other m]
    exact d
theorem AllIn.zero {es : List Ch} (hcl : Closed es) (ok : ∀ c ∈ es, OkCh c) (full : ∀ c ∈ es, (hs c).isSome = true) : AllIn (fun _ => 0) es := fun ch hc x hx => by
  obtain ⟨r, h1⟩ := anc hcl hc hx
  have := full _ h1
  obtain ⟨n, s⟩ := x
  cases s with
  | none => cases this
  | some t =>
    obtain ⟨w, i, j⟩ := t
    obtain ⟨⟨a1, a2⟩, ⟨b1, b2⟩⟩ : (-10000 ≤ i ∧ i ≤ 0) ∧ (0 ≤ j ∧ j ≤ 10000) := ok ch hc _ hx
    exact ⟨w, i, j, rfl, ⟨a2, b1⟩, a2, b1⟩
theorem plL_full {es : List Ch} (full : ∀ c ∈ es, (hs c).isSome = true) : plL es = es.map hn := by
  unfold plL
  rw [List.filter_eq_self.mpr full]
theorem rows_at {H : Hp} : ∀ {vs : List V} {R : List (Str × Int × Int)} {u : Nat} {x : V}, ImAll H vs (R.map rowP) → vs[u]? = some x → ∃ q n d z, x = .ref q ∧ (n, d, z) ∈ R ∧ R[u]? = some (n, d, z) ∧ H q = some (.tup [.str n, .int d, .int z])
  | [], _, _, _, _, h => by simp at h
  | v :: vs, [], _, _, h, _ => nomatch h
  | v :: vs, (n, d, z) :: R, 0, x, h, e => by
    obtain rfl : v = x := Option.some.inj e
    cases h with
    | cons a b =>
      cases a with
      | tup h1 h2 =>
        cases h2 with
        | cons a1 b1 =>
          cases a1
          cases b1 with
          | cons a2 b2 =>
            cases a2
            cases b2 with
            | cons a3 b3 =>
              cases a3
              cases b3
              exact ⟨_, n, d, z, rfl, List.mem_cons_self, rfl, h1⟩
  | v :: vs, y :: R, u + 1, x, h, e => by
    cases h with
    | cons a b =>
      obtain ⟨q, n, d, z, a1, a2, a3, a4⟩ := rows_at b (show vs[u]? = some x from e)
      exact ⟨q, n, d, z, a1, List.mem_cons_of_mem _ a2, a3, a4⟩
theorem dp_two {K : PySem.W.Frag} {H : Hp} {p : Addr} {i j : Int} (h : H p = some (.tup [.int i, .int j])) : Dp K H (.ref p) (.tuple [.int i, .int j]) := .tup (SqT.of h) (.cons (.int _) (.cons (.int _) .nil))
theorem DGet.z {H : Hp} {a : Addr} {o : Obj} {kvs : List (Key × V)} {k : Key} (e : H a = some (.frz o (.dK kvs))) : DGet H a (kV k) (valV kvs k) := .inl ⟨kvs, k, .inr ⟨o, e⟩, rfl, rfl⟩
theorem nin_strs (n : Str) (ns : List Str) : (!inV (.str n) (ns.map V.str)) = decide (n ∉ ns) := by
  rw [inV_strs, Bool.eq_iff_iff, Bool.not_eq_true', decide_eq_true_iff]
  constructor
  · intro h m
    rw [List.any_eq_false] at h
    exact h n m (by simp)
  · intro h
    rw [List.any_eq_false]
    intro x hx e
    exact h (by rw [← eq_of_beq e]; exact hx)
theorem all_flat (ns : List Str) : (ns.map V.str).all flatV = true := by
  rw [List.all_map]
  exact List.all_eq_true.mpr fun _ _ => rfl
end SG
namespace SG
open PySem PySem.Spec PyProof.Rows L2
def spLaw (K : PySem.W.Frag) : Sp := fun vs H Q _ => ∃ (a : Addr) (ns : List Int), vs = [.ref a] ∧ SqL K H a (ns.map V.int) ∧ ns.length ≤ 63 ∧ ∀ H', Q (.bl true) H'
structure Est4 (es : List Ch) : Prop where
  cl : Closed es
  ok : ∀ c ∈ es, OkCh c
  ln : ∀ c ∈ es, c.length ≤ 20
  few : es.length ≤ 30
  nd : (es.map hn).Nodup
  full : ∀ c ∈ es, (hs c).isSome = true
structure LwD (C : Addr) (H0 H : Hp) (t c : Addr) (n : Nat) (m a b d h fd sp gl : Addr) (sc : V) (es : List Ch) (f : Str → Int) : Prop where
  T : TapeAt H t c n
  M : MillAt C H m a b d sc es f
  A : HeldAt H0 H h fd sp gl
  L : LP H0 H fd es
  I : AllIn f es
structure Fx4 (H0 : Hp) (t a b d h fd : Addr) : Prop where
  t0 : ∃ o, H0 t = some o
  ta : t ≠ a ∧ t ≠ b ∧ t ≠ d
  tl : t ≠ h ∧ t ≠ fd
  bl : b ≠ h ∧ b ≠ fd
section
variable {C : Addr} {H0 H H' : Hp} {t c : Addr} {n n' : Nat} {m a b d h fd sp gl : Addr} {sc : V} {es : List Ch} {f g : Str → Int}
theorem LP.keepY {H0 H H' : Hp} {fd : Addr} {es : List Ch} {S : List Addr} (h : LP H0 H fd es) (f : Fr S H H') (tp : Tp H H') (hS : ∀ s ∈ S, s ≠ fd ∧ ((∃ o, H0 s = some o) ∨ ∃ ns g, H s = some (.dK (kvI ns g)))) : LP H0 H' fd es := by
  obtain ⟨kvs, h1, h2, h3⟩ := h
  refine ⟨kvs, f _ _ h1 (fun m => (hS fd m).1 rfl), h2, fun ch hc => ?_⟩
  obtain ⟨x, c, e, q, bx, er, wi, inn, e1, e2, e3, e4, e5, e6⟩ := h3 ch hc
  refine ⟨x, c, e, q, bx, er, wi, inn, e1, e2, e3, e4, f _ _ e5 (fun m => ?_), tp _ _ e6⟩
  rcases (hS e m).2 with ⟨o, z⟩ | ⟨ns, g, z⟩
  · rw [e4] at z; cases z
  · exact ent_ne e5 z rfl
theorem LwD.tape (x : LwD C H0 H t c n m a b d h fd sp gl sc es f) (s : Fx4 H0 t a b d h fd) (T' : TapeAt H' t c n') (f' : Fr [t] H H') : LwD C H0 H' t c n' m a b d h fd sp gl sc es f := by
  obtain ⟨kvs, ht⟩ := x.T.is
  have nd := f'.nd (by simp; exact ⟨_, ht⟩)
  have g := x.A.g
  refine ⟨T', x.M.keep f' nd (by simp; exact s.ta.1.symm) (by simp; exact s.ta.2.1.symm) (by simp; exact s.ta.2.2.symm), x.A.keep f' (by simp; exact s.tl.1.symm) (by simp; rintro rfl; rw [ht] at g; cases g), x.L.keepY f' nd.tp (fun z hz => ?_), x.I⟩
  rw [List.mem_singleton.mp hz]
  exact ⟨s.tl.2, .inl s.t0⟩
theorem LwD.same (x : LwD C H0 H t c n m a b d h fd sp gl sc es f) (s : Same H H') : LwD C H0 H' t c n m a b d h fd sp gl sc es f :=
  ⟨x.T.same s, x.M.same s, x.A.keep (S := []) (Fr.same s _) (by simp) (by simp), x.L.keepY (S := []) (Fr.same s _) (Tp.same s) (fun _ h => nomatch h), x.I⟩
theorem LwD.mill (x : LwD C H0 H t c n m a b d h fd sp gl sc es f) (s : Fx4 H0 t a b d h fd) (f' : Fr [b] H H') (hM' : MillAt C H' m a b d sc es g) (i : AllIn g es) : LwD C H0 H' t c n m a b d h fd sp gl sc es g := by
  obtain ⟨dx, h1, h2, h3, h4, h5⟩ := x.M
  have nd := f'.nd (by simp; exact ⟨_, h3⟩)
  obtain ⟨cs, s', l', q1, q2, q3⟩ := x.T
  have gg := x.A.g
  refine ⟨⟨cs, s', l', f' _ _ q1 (by simp; exact s.ta.2.1), nd.lst q2, q3⟩, hM', x.A.keep f' (by simp; exact s.bl.1.symm) (by simp; rintro rfl; rw [h3] at gg; cases gg), x.L.keepY f' nd.tp (fun z hz => ?_), i⟩
  rw [List.mem_singleton.mp hz]
  exact ⟨s.bl.2, .inr ⟨_, _, h3⟩⟩
theorem LwD.mono (x : LwD C H0 H t c n m a b d h fd sp gl sc es f) (l : n ≤ n') : LwD C H0 H t c n' m a b d h fd sp gl sc es f := ⟨x.T.mono l, x.M, x.A, x.L, x.I⟩
end
section
variable {P : Program} {w : World} {K : PySem.W.Frag} {mg : Str → Option Value} {base : Heap}
theorem ok_law {C : Addr} {f : Addr} {fd : FuncData} (F : Fun K "law" "law" slaw f fd) (T : Txt K mg) (Tc : TxShelves K mg C) (c_law_begun : Cl P w K mg base 1 "_law_begun" (spBegun K)) (c_law_draw : Cl P w K mg base 1 "_law_draw" spDraw) (c_law_drawn : Cl P w K mg base 4 "_law_drawn" spDrawn) (c_law_shelved : Cl P w K mg base 8 "_law_shelved" (spShelved 6)) (cShelves : C8.Mak P w K mg base 8 "Shelves" C (spInit C) [])
    (c_law_own : Cl P w K mg base 8 "_law_own" spOwn) (c_law_pick : Cl P w K mg base 2 "_law_pick" (spPick K)) (c_law_is_whole : Cl P w K mg base 1 "_law_is_whole" spWhole) (c_law_about : Cl P w K mg base 1 "_law_about" spAbout)
    (cstep : C8.Met P w K mg base 2 C "step" (spStep C) []) (cplaces : C8.Met P w K mg base 1 C "places" (spPlaces C) []) : FnG P w K mg base 10 f fd ["_law_script"] (spLaw K) := by
  refine fun_okG F sclaw (fun vs H Q E h => ?_) (fun cdv A outer s H vs Q E hr hg h => ?_)
  · obtain ⟨a, ns, rfl, _⟩ := h
    rfl
  obtain ⟨a, ns, rfl, hS, h63, k⟩ := h
  have hu := hu_of hr
  refine ⟨_, -- _law_tape = _law_begun(_law_script)
    (pss_cons (ps_set (i := 1) sclaw.nd rfl (Or.inr rfl) (pe_cl c_law_begun (hr.mono (by first | decide | omega)) rfl (pa_cons (pv 0) pa_nil)))
    (pss_cons (ps_for PassesOwn.never rfl (pi_range1 rfl T.m_range (pa_cons pe_int pa_nil)) (pg_name (i := 2) sclaw.nd rfl (Or.inl rfl))
      (pss_cons (ps_set (i := 3) sclaw.nd rfl (Or.inl rfl) (pe_tup (pa_cons (pe_cl c_law_shelved (hr.mono (by first | decide | omega)) rfl (pa_cons (pv 1) (pa_cons (pe_ix ix_tup (pe_cl c_law_drawn (hr.mono (by first | decide | omega)) rfl (pa_cons (pv 1) (pa_cons pe_int pa_nil))) pe_int (fun _ _ => rfl)) pa_nil))) (pa_cons (pe_tup pa_nil) (pa_cons (pe_tup pa_nil) pa_nil)))))
      (pss_cons (ps_asg (pe_tup (pa_cons (C8.pe_mk cShelves hr (by first | decide | omega) rfl (pa_cons (pv 3) pa_nil)) (pa_cons (pe_cl c_law_own (hr.mono (by first | decide | omega)) rfl (pa_cons (pv 3) (pa_cons pe_int (pa_cons pe_int (pa_cons pe_bl pa_nil))))) pa_nil))) (pg_tup rfl (pgs_cons (pg_name (i := 4) sclaw.nd rfl (Or.inl rfl)) (pgs_cons (pg_name (i := 5) sclaw.nd rfl (Or.inr rfl)) pgs_nil))))
      (pss_one (ps_for PassesOwn.never rfl (pi_range1 rfl T.m_range (pa_cons pe_int pa_nil)) (pg_name (i := 6) sclaw.nd rfl (Or.inl rfl))
        (pss_cons (ps_asg (pe_tup (pa_cons (pe_cl c_law_pick (hr.mono (by first | decide | omega)) rfl (pa_cons (pv 1) (pa_cons (pe_callTy (call_list_dK rfl) rfl T.m_list (by decide +kernel) (pa_cons (pe_dget hu (pv 5) pe_str (fun _ _ => rfl)) pa_nil)) pa_nil))) (pa_cons (C8.pe_mt0 cplaces hr (by first | decide | omega) (pv 4)) pa_nil))) (pg_tup rfl (pgs_cons (pg_name (i := 7) sclaw.nd rfl (Or.inr rfl)) (pgs_cons (pg_name (i := 8) sclaw.nd rfl (Or.inr rfl)) pgs_nil))))
        (pss_cons (ps_setLc (i := 9) (own := [("_law_k", 14)]) rfl sclaw.nd rfl rfl (sw_true rfl rfl rfl (by decide +kernel)) (pi_range1 rfl T.m_range (pa_cons pe_int pa_nil)) (blkOk_by (N := Nlaw) (sc := defScope slaw) (by decide +kernel)) (fun _ _ _ _ _ => (pg_name (i := 14) sclaw.nd rfl (Or.inl rfl))) (fun _ _ _ _ _ => pts_nil) (fun _ _ _ _ _ => (pe_op op_mul (pe_cl c_law_pick (hr.mono (by first | decide | omega)) rfl (pa_cons (pv 1) (pa_cons (pe_lst (pa_cons pe_int (pa_cons pe_int (pa_cons (pe_cl c_law_draw (hr.mono (by first | decide | omega)) rfl (pa_cons (pv 1) (pa_cons pe_int pa_nil))) (pa_cons pe_int pa_nil))))) pa_nil))) (pe_cl c_law_pick (hr.mono (by first | decide | omega)) rfl (pa_cons (pv 1) (pa_cons (pe_lst (pa_cons pe_int (pa_cons (pe_un un_neg pe_int) pa_nil))) pa_nil))))))
        (pss_cons (ps_asg (C8.pe_mt cstep hr (by first | decide | omega) (pv 4) (pa_cons (pv 7) (pa_cons (pe_ix ix_list (pv 9) pe_int (fun _ _ => rfl)) (pa_cons (pe_ix ix_list (pv 9) pe_int (fun _ _ => rfl)) pa_nil)))) (pg_tup rfl (pgs_cons (pg_name (i := 10) sclaw.nd rfl (Or.inl rfl)) (pgs_cons (pg_name (i := 11) sclaw.nd rfl (Or.inl rfl)) pgs_nil))))
        (pss_cons (ps_set (i := 12) sclaw.nd rfl (Or.inr rfl) (C8.pe_mt0 cplaces hr (by first | decide | omega) (pv 4)))
        (pss_cons (ps_if (pt_cmpR (op_neP hr.units) (pe_lc (own := [("_law_one", 15)]) rfl sclaw.nd (pi_list (pv 10)) (blkOk_by (N := Nlaw) (sc := defScope slaw) (by decide +kernel)) (fun _ _ _ _ _ => (pg_name (i := 15) sclaw.nd rfl (Or.inl rfl))) (fun _ _ _ _ _ => pts_one (pt_cmpR (r := rNeP K) (op_neP hr.units) (pe_tup (pa_cons (pe_ix (r := rIxT K) ix_tup (pv 15) pe_int (fun _ _ => rfl)) (pa_cons (pe_ix (r := rIxT K) ix_tup (pv 15) pe_int (fun _ _ => rfl)) pa_nil))) (pe_tup (pa_cons (pe_op op_sub (pe_dget hu (pv 12) (pe_ix (r := rIxT K) ix_tup (pv 15) pe_int (fun _ _ => rfl)) (fun _ _ => rfl)) (pe_dget hu (pv 8) (pe_ix (r := rIxT K) ix_tup (pv 15) pe_int (fun _ _ => rfl)) (fun _ _ => rfl))) (pa_cons (pe_dget hu (pv 12) (pe_ix (r := rIxT K) ix_tup (pv 15) pe_int (fun _ _ => rfl)) (fun _ _ => rfl)) pa_nil))) (nomark _))) (fun _ _ _ _ _ => (pv 15))) (pe_lst pa_nil) (nomark _))
          (pss_one (ps_ret pe_bl))
          pss_nil)
        (pss_cons (ps_if (pt_cmpR (op_neP hr.units) (pe_callB cr_sortedS (by rfl) T.m_sorted (by decide +kernel) (pa_cons (pe_lc (own := [("_law_one", 15)]) rfl sclaw.nd (pi_list (pv 10)) (blkOk_by (N := Nlaw) (sc := defScope slaw) (by decide +kernel)) (fun _ _ _ _ _ => (pg_name (i := 15) sclaw.nd rfl (Or.inl rfl))) (fun _ _ _ _ _ => pts_nil) (fun _ _ _ _ _ => (pe_ix (r := rIxT K) ix_tup (pv 15) pe_int (fun _ _ => rfl)))) pa_nil)) (pe_callB cr_sortedS (by rfl) T.m_sorted (by decide +kernel) (pa_cons (pe_lock (pe_lc (own := [("_law_one", 15)]) rfl sclaw.nd (pi_keys (pv 12)) (blkOk_by (N := Nlaw) (sc := defScope slaw) (by decide +kernel)) (fun _ _ _ _ _ => (pg_name (i := 15) sclaw.nd rfl (Or.inl rfl))) (fun _ _ _ _ _ => pts_one (pt_cmpR op_ne (pe_dget hu (pv 12) (pv 15) (fun _ _ => rfl)) (pe_dget hu (pv 8) (pv 15) (fun _ _ => rfl)) (nomark _))) (fun _ _ _ _ _ => (pv 15)))) pa_nil)) (nomark _))
          (pss_one (ps_ret pe_bl))
          pss_nil)
        (pss_cons (ps_if (pt_not (pt_val (pe_cl c_law_is_whole (hr.mono (by first | decide | omega)) rfl (pa_cons (pe_dget hu (pv 5) pe_str (fun _ _ => rfl)) (pa_cons (pv 7) (pa_cons pe_str (pa_cons (pe_ix ix_list (pv 9) pe_int (fun _ _ => rfl)) (pa_cons (pv 8) (pa_cons (pv 12) (pa_cons (pe_ix ix_tup (pv 11) pe_int (fun _ _ => rfl)) pa_nil))))))))))
          (pss_one (ps_ret pe_bl))
          pss_nil)
        (pss_cons (ps_if (pt_not (pt_val (pe_cl c_law_is_whole (hr.mono (by first | decide | omega)) rfl (pa_cons (pe_dget hu (pv 5) pe_str (fun _ _ => rfl)) (pa_cons (pv 7) (pa_cons pe_str (pa_cons (pe_ix ix_list (pv 9) pe_int (fun _ _ => rfl)) (pa_cons (pv 8) (pa_cons (pv 12) (pa_cons (pe_ix ix_tup (pv 11) pe_int (fun _ _ => rfl)) pa_nil))))))))))
          (pss_one (ps_ret pe_bl))
          pss_nil)
        (pss_cons (ps_lock (ps_setLc (i := 13) (own := [("_law_one", 15)]) rfl sclaw.nd rfl rfl (sw_true rfl rfl rfl (by decide +kernel)) (pi_keys (pv 12)) (blkOk_by (N := Nlaw) (sc := defScope slaw) (by decide +kernel)) (fun _ _ _ _ _ => (pg_name (i := 15) sclaw.nd rfl (Or.inl rfl))) (fun _ _ _ _ _ => pts_one (pt_cmpR (r := rIn K true) op_notIn_seq (pv 15) (pe_cl c_law_about (hr.mono (by first | decide | omega)) rfl (pa_cons (pv 5) (pa_cons (pv 7) pa_nil))) (by with_unfolding_all rfl))) (fun _ _ _ _ _ => (pv 15))))
        (pss_one (ps_if (pt_cmpR (op_neP hr.units) (pe_lc (own := [("_law_one", 15)]) rfl sclaw.nd (pi_list (pv 13)) (blkOk_by (N := Nlaw) (sc := defScope slaw) (by decide +kernel)) (fun _ _ _ _ _ => (pg_name (i := 15) sclaw.nd rfl (Or.inl rfl))) (fun _ _ _ _ _ => pts_one (pt_cmpR op_ne (pe_dget hu (pv 12) (pv 15) (fun _ _ => rfl)) (pe_dget hu (pv 8) (pv 15) (fun _ _ => rfl)) (nomark _))) (fun _ _ _ _ _ => (pv 15))) (pe_lst pa_nil) (nomark _))
          (pss_one (ps_ret pe_bl))
          pss_nil))))))))))))))))
    (pss_one (ps_ret pe_bl)))), ?_⟩
  refine ⟨_, rfl, a, ns, rfl, hS, h63, fun t c H1 T1 s1 t0 => ?_⟩
  refine ⟨_, rfl, by decide, by decide, ?_⟩
  rw [show ((3 : Int)).toNat = 3 from rfl]
  refine for_range (lo := 0) (n := 3) (fun j σ Hz => ∃ k2 k3 k4 k5 k6 k7 k8 k9 k10 k11 k12 k13 k14 k15 : Option V, σ = [some (.ref a), some (.ref t), k2, k3, k4, k5, k6, k7, k8, k9, k10, k11, k12, k13, k14, k15] ∧ TapeAt Hz t c (10000 * j)) ⟨_, _, _, _, _, _, _, _, _, _, _, _, _, _, rfl, T1⟩ ?_ ?_
  · rintro j σ Hz hj ⟨k2, k3, k4, k5, k6, k7, k8, k9, k10, k11, k12, k13, k14, k15, rfl, Tz⟩
    refine ⟨_, rfl, _, rfl, t, c, _, rfl, Tz, by omega, fun r0 p0 x0 y0 H2 hr0 hp0 ⟨nd0, okn⟩ few0 T2 f2 => ?_⟩
    refine ⟨r0, _, 0, _, rfl, rfl, SqT.of hr0, atI_nat (j := 0) rfl, ?_⟩
    refine ⟨t, c, _, p0, rfl, T2, hp0, by omega, by omega, fun p H3 hp nme full T3 f3 => ?_⟩
    refine ⟨(by show 0 ≤ sizeLine; decide), ?_⟩
    (intro ee1 ee10; generalize hh_ : upd _ ee1 _ = H4; have he1 := upd_is hh_; have s4 := same_is hh_ ee10; clear hh_)
    refine ⟨(by show 0 ≤ sizeLine; decide), ?_⟩
    (intro ee2 ee20; generalize hh_ : upd _ ee2 _ = H5; have he2 := upd_is hh_; have s5 := same_is hh_ ee20; clear hh_)
    refine ⟨(by show 3 ≤ sizeLine; decide), ?_⟩
    (intro r rz; generalize hh_ : upd _ r _ = H6; have hr6 := upd_is hh_; have s6 := same_is hh_ rz; clear hh_)
    have s36 := s4.trans (s5.trans s6)
    have hp6 := hp.tp (Tp.same s36)
    have T6 := T3.same s36
    have ndp : p.nms.Nodup := by rw [nme]; exact nd0
    have fewp : p.nms.length ≤ 30 := by rw [nme]; exact few0
    refine ⟨_, rfl, ?_⟩
    intro m dm nm ndm nm3
    have s7 : Same H6 (upd (upd H6 dm (.own m)) m (.ins C dm [])) := fun q o e => by
      rw [upd_ne (ne_of_none e nm), upd_ne (ne_of_none e ndm)]
      exact e
    have hm7 : (upd (upd H6 dm (.own m)) m (.ins C dm [])) m = some (.ins C dm []) := upd_same
    generalize upd (upd H6 dm (.own m)) m (.ins C dm []) = H7 at *
    refine ⟨m, dm, r, _, _, p, rfl, hm7, s7 _ _ hr6, hp6.tp (Tp.same s7), ndp, by omega, fun H8 ma mb md M8 ⟨a0, b0, d0⟩ f8 => ⟨rfl, ?_⟩⟩
    have s8 : Same H6 H8 := fun q o e => f8 q o (s7 _ _ e) (by simp; rintro rfl; rw [nm] at e; cases e)
    refine ⟨_, rfl, r, p, _, _, rfl, s8 _ _ hr6, hp6.tp (Tp.same s8), ndp, by omega, fun H9 h fd sp gl A9 L9 S9 s9 ⟨fd0, sp0⟩ ⟨fdh, sph, spf⟩ => ?_⟩
    refine ⟨(by show 2 ≤ sizeLine; decide), ?_⟩
    (intro pr pr0; generalize hh_ : upd _ pr _ = Ha; have hpr := upd_is hh_; have sa := same_is hh_ pr0; clear hh_)
    refine ⟨pr, _, rfl, SqT.of hpr, rfl, _, _, rfl, _, _, rfl, rfl, ?_⟩
    obtain ⟨kt, ht8⟩ := (T6.same s8).is
    obtain ⟨kt6, ht6⟩ := T6.is
    have ht7 := s7 _ _ ht6
    obtain ⟨dd, hm8, ha8, hb8, hd8, nabc⟩ := id M8
    have g : Fx4 H8 t ma mb md h fd := by
      refine ⟨⟨_, ht8⟩, ⟨?_, ?_, ?_⟩, ⟨?_, ?_⟩, ⟨?_, ?_⟩⟩
      · rintro rfl; rw [ht7] at a0; cases a0
      · rintro rfl; rw [ht7] at b0; cases b0
      · rintro rfl; rw [ht7] at d0; cases d0
      · rintro rfl; have := A9.h0; rw [ht8] at this; cases this
      · rintro rfl; rw [ht8] at fd0; cases fd0
      · rintro rfl; have := A9.h0; rw [show H8 mb = some (.dK _) from hb8] at this; cases this
      · rintro rfl; rw [show H8 mb = some (.dK _) from hb8] at fd0; cases fd0
    have hlen : (p.chs []).length = p.nms.length := by rw [← hn_chs p [], List.length_map]
    have est : Est4 (p.chs []) := by
      refine ⟨closed_tree p, ok_chs hp (fun _ z => nomatch z), fun c' hc' => ?_, by omega, by rw [hn_chs]; exact ndp, full []⟩
      have := len_chs hp c' hc'
      rw [List.length_nil] at this
      omega
    have esne : 1 ≤ (p.chs []).length := by rw [chs_eq]; simp
    have W9 : LwD C H8 Ha t c (10000 * j + 9000 + 3 * p0.nms.length) m ma mb md h fd sp gl (.ref r) (p.chs []) (fun _ => 0) := LwD.same ⟨(T6.same s8).same s9, M8.same s9, A9, L9, AllIn.zero est.cl est.ok est.full⟩ sa
    clear T6 T3 T2 hp6 s36 M8 A9 L9 S9 sa s9 f8 hm7 s7 s8 hm8 ha8 hb8 hd8 hpr a0 b0 d0 ht8 ht7 ht6 s4 s5 s6 nm ndm nm3 he1 he2 fd0 sp0 f2 f3 T1
    refine ⟨_, rfl, by decide, by decide, for_range (n := 16) (fun i σ Hx => ∃ (g : Str → Int) (k6 k7 k8 k9 k10 k11 k12 k13 k14 k15 : Option V), σ = [some (.ref a), some (.ref t), some (.int (0 + (j : Int))), some (.ref r), some (.ref m), some (.ref h), k6, k7, k8, k9, k10, k11, k12, k13, k14, k15] ∧ LwD C H8 Hx t c (10000 * j + 9100 + 10 * i) m ma mb md h fd sp gl (.ref r) (p.chs []) g) ?_ ?_ ?_⟩
    · exact ⟨_, _, _, _, _, _, _, _, _, _, _, rfl, W9.mono (by omega)⟩
    · clear W9
      rintro i σ Hx hi ⟨f, k6, k7, k8, k9, k10, k11, k12, k13, k14, k15, rfl, W⟩
      obtain ⟨⟨kv, kh, kp, ks, _⟩, hgl, _, _⟩ := id W.A
      obtain ⟨kvs, q1, q2, q3⟩ := id W.L
      have dgp : DGet Hx h (.str "parts") (some (.ref fd)) := by have := DGet.k (k := Sum.inr "parts") kh; rw [kp] at this; exact this
      have lk : kvs.length = (p.chs []).length := by
        have := congrArg List.length q2
        unfold keysOf at this
        rw [List.length_map, List.length_map] at this
        exact this
      refine ⟨_, rfl, _, rfl, h, _, rfl, dgp, fd, kvs, rfl, q1, pick_new W.T (by omega) ⟨by rw [List.length_map]; omega, by rw [List.length_map]; have := est.few; omega⟩ fun v Hb hv Tb fb => ?_⟩
      obtain ⟨ch, hch, rfl⟩ : ∃ ch ∈ p.chs [], v = .str (hn ch) := by
        obtain ⟨kv', hkv, rfl⟩ := List.mem_map.mp hv
        have : kv'.1 ∈ kvs.map (·.1) := List.mem_map.mpr ⟨kv', hkv, rfl⟩
        rw [q2] at this
        obtain ⟨ch, hch, e⟩ := List.mem_map.mp this
        exact ⟨ch, hch, by rw [← e]; rfl⟩
      have Wb := W.tape g Tb fb
      clear kh kp ks hgl q1 q2 q3 dgp lk hv W Tb fb
      obtain ⟨dd, hmb, hab, hbb, hdb, nabc⟩ := id Wb.M
      refine ⟨_, rfl, m, dd, _, rfl, hmb, lk_plcs, m, ma, mb, md, .ref r, p.chs [], f, rfl, Wb.M, fun Hc wd wd0 hwd sc => ?_⟩
      refine ⟨(by show 2 ≤ sizeLine; decide), ?_⟩
      (intro pa pa0; generalize hh_ : upd _ pa _ = Hd; have hpa := upd_is hh_; have sd := same_is hh_ pa0; clear hh_)
      refine ⟨pa, _, rfl, SqT.of hpa, rfl, _, _, rfl, _, _, rfl, rfl, ?_⟩
      have Wd := Wb.same (sc.trans sd)
      have hwd' := sd _ _ hwd
      rw [plL_full est.full] at hwd'
      have wdt : wd ≠ t := Wb.T.ne_new wd0
      have wdb : wd ≠ mb := by rintro rfl; rw [show Hb wd = some (.dK _) from hbb] at wd0; cases wd0
      refine ⟨_, rfl, by decide, by decide, fun dl hdl => ?_⟩
      have dl0 : Hd dl = none := hdl
      refine lc_range (n := 2) (fun u Hy => ∃ zs : List Int, Hy dl = some (.lst (zs.map V.int)) ∧ zs.length = u ∧ (∀ z ∈ zs, -300 ≤ z ∧ z ≤ 300) ∧ TapeAt Hy t c (10000 * j + 9100 + 10 * i + 1 + 3 * u) ∧ Fr [t] Hd Hy) ?_ ?_ ?_
      · exact ⟨[], upd_same, rfl, (fun _ h => nomatch h), Wd.T.same (same_new dl0), Fr.new dl0⟩
      · rintro u Hy hu ⟨zs, y1, y2, y3, y4, y5⟩
        refine ⟨rfl, ?_⟩
        refine ⟨_, rfl, _, rfl, t, c, _, _, rfl, y4, by decide, by omega, fun z Hz hz Tz fz => ?_⟩
        refine ⟨(by show 4 ≤ sizeLine; decide), pick_new Tz (by omega) ⟨by show 1 ≤ 4; decide, by show 4 ≤ 1000; decide⟩ fun v1 Hu hv1 Tu fu => ?_⟩
        obtain ⟨z1, rfl, z11, z12⟩ : ∃ z1 : Int, v1 = .int z1 ∧ 0 ≤ z1 ∧ z1 ≤ 300 := by
          simp only [List.mem_cons, List.not_mem_nil, or_false] at hv1
          rcases hv1 with rfl | rfl | rfl | rfl
          · exact ⟨_, rfl, by decide, by decide⟩
          · exact ⟨_, rfl, by decide, by decide⟩
          · exact ⟨_, rfl, by omega, by omega⟩
          · exact ⟨_, rfl, by decide, by decide⟩
        refine ⟨_, rfl, ⟨_, rfl, (by show 2 ≤ sizeLine; decide), pick_new Tu (by omega) ⟨by show 1 ≤ 2; decide, by show 2 ≤ 1000; decide⟩ fun v2 Hv hv2 Tv fv => ?_⟩⟩
        obtain ⟨z2, rfl, z21⟩ : ∃ z2 : Int, v2 = .int z2 ∧ (z2 = 1 ∨ z2 = -1) := by
          simp only [List.mem_cons, List.not_mem_nil, or_false] at hv2
          rcases hv2 with rfl | rfl
          · exact ⟨_, rfl, .inl rfl⟩
          · exact ⟨_, rfl, .inr rfl⟩
        have dlt : dl ≠ t := Wd.T.ne_new dl0
        have dlc : dl ≠ c := Wd.T.ne_newc dl0
        have fv' := fz.trans (fu.trans fv)
        refine ⟨z1, z2, rfl, rfl, .inl ⟨by omega, by omega⟩, zs.map V.int, fv' _ _ y1 (by simpa using dlt), (by rw [List.length_map]; exact small100 (by omega)), zs ++ [z1 * z2], by rw [upd_same, List.map_append]; rfl, by rw [List.length_append, y2]; rfl, ?_, (Tv.put dlt dlc).mono (by omega), ?_⟩
        · intro z hz
          rcases List.mem_append.mp hz with hz | hz
          · exact y3 z hz
          · rw [List.mem_singleton.mp hz]
            rcases z21 with rfl | rfl <;> omega
        · intro z o eo nz
          rw [upd_ne (ne_of_none eo dl0)]
          exact (y5.trans fv') z o eo nz
      · rintro Hy ⟨zs, y1, y2, y3, y4, y5⟩
        obtain ⟨z1, z2, rfl⟩ : ∃ z1 z2, zs = [z1, z2] := by
          match zs, y2 with
          | [z1, z2], _ => exact ⟨_, _, rfl⟩
        have b1 := y3 z1 (by simp)
        have b2 := y3 z2 (by simp)
        have Wy := Wd.tape g y4 y5
        have hwy := y5 _ _ hwd' (by simpa using wdt)
        clear y3 y4 y5 hwd hwd' hpa sd sc Wd Wb dl0 hdl wd0 pa0 hmb hab hbb hdb nabc
        obtain ⟨ddy, hmy, hay, hby, hdy, nabcy⟩ := id Wy.M
        refine ⟨_, rfl, m, ddy, _, rfl, hmy, lk_step, _, rfl, _, rfl, dl, _, 0, _, rfl, rfl, SqL.of y1, atI_nat (j := 0) rfl, _, rfl, dl, _, 1, _, rfl, rfl, SqL.of y1, atI_nat (j := 1) rfl, ?_⟩
        refine ⟨m, ma, mb, md, z1, z2, .ref r, p.chs [], ch, f, rfl, Wy.M, hch, est.cl, est.ln ch hch, by have := est.few; omega, fun Hf r2 tl t2 rows c1 c2 c3 c4 c5 Mf ff => ?_⟩
        have ndc := ch_nodup est.cl est.nd ch hch
        have inb := Wy.I ch hch
        have Wf := Wy.mill g ff Mf (Wy.I.step est.cl est.nd hch)
        refine ⟨r2, _, rfl, SqT.of c1, rfl, _, _, rfl, _, _, rfl, rfl, ?_⟩
        obtain ⟨ddf, hmf, _⟩ := id Wf.M
        refine ⟨_, rfl, m, ddf, _, rfl, hmf, lk_plcs, m, ma, mb, md, .ref r, p.chs [], _, rfl, Wf.M, fun Hg nd nd0 hnd sg => ?_⟩
        have Wg := Wf.same sg
        rw [plL_full est.full] at hnd
        have hwg : Hg wd = some (.dK (kvI ((p.chs []).map hn) f)) := sg _ _ (ff _ _ hwy (by simpa using wdb))
        have wdn : wd ≠ nd := by rintro rfl; rw [ff _ _ hwy (by simpa using wdb)] at nd0; cases nd0
        have hnd2 : h ≠ nd ∧ fd ≠ nd := by
          obtain ⟨⟨kv, kh, _⟩, _, _, _⟩ := id Wf.A
          obtain ⟨kvs, l1, _⟩ := id Wf.L
          exact ⟨(by rintro rfl; rw [kh] at nd0; cases nd0), (by rintro rfl; rw [l1] at nd0; cases nd0)⟩
        have dlb : dl ≠ mb := by rintro rfl; rw [show Hy dl = some (.dK _) from hby] at y1; cases y1
        have hdg : Hg dl = some (.lst [.int z1, .int z2]) := sg _ _ (ff _ _ y1 (by simpa using dlb))
        have hrows : Hg tl = some (.lst rows) := sg _ _ c2
        have imr := ImAll.tp (Tp.same sg) c3
        have ht2 := sg _ _ c4
        have r1 := stp_row (dx := z1) (dy := z2) ndc inb
        have r2' := stp_names (dx := z1) (dy := z2) ndc inb
        have l1 := ImAll.len c3
        rw [List.length_map] at l1
        have lr : rows.length ≤ 40 := by
          have a1 := tk_len true ch z1 f
          have a2 := tk_len false ch z2 (tk true ch z1 f).2.2
          have a3 : (stp ch z1 z2 f).1.length = (tk true ch z1 f).1.length + (tk false ch z2 (tk true ch z1 f).2.2).1.length := by
            show (_ ++ _ : List _).length = _
            rw [List.length_append]
          have := est.ln ch hch
          omega
        have ga := good_a (dx := z1) (dy := z2) ndc inb
        have gb := good_b (dx := z1) (dy := z2) ndc inb
        have oth : ∀ n, n ∉ ch.map (·.1) → (stp ch z1 z2 f).2.2 n = f n := fun n hn => stp_other hn
        have chn : ∀ n ∈ ch.map (·.1), n ∈ (p.chs []).map hn := fun n hn => by
          obtain ⟨x, hx, rfl⟩ := List.mem_map.mp hn
          obtain ⟨r, h1⟩ := anc est.cl hch hx
          exact List.mem_map.mpr ⟨_, h1, rfl⟩
        generalize hR : (stp ch z1 z2 f).1 = R at *
        generalize hG : (stp ch z1 z2 f).2.2 = G at *
        clear hmf ff sg c1 c2 c3 c4 c5 hmy hay hby hdy nabcy y1 hwy Wf Wy Mf
        refine ⟨_, rfl, tl, rfl, ⟨_, SqL.of hrows⟩, fun d2 hd2 => ?_⟩
        have d20 : Hg d2 = none := hd2
        refine lc_list (K := K) (a := tl) (xs := rows) (fun u Hy => Hy d2 = some (.lst []) ∧ Same Hg Hy) ?_ ?_ ?_ ?_
        · exact ⟨upd_same, same_new d20⟩
        · exact fun u Hy _ ⟨_, sy⟩ => SqL.of (sy _ _ hrows)
        · rintro u x Hy hu ⟨hd, sy⟩
          refine ⟨rfl, ?_⟩
          obtain ⟨q, n, dv, z, rfl, mR, _, hq⟩ := rows_at (ImAll.tp (Tp.same sy) imr) hu
          obtain ⟨n1, n2, n3⟩ := r1 _ mR
          have nmes := chn n n1
          have n2' : dv = G n - f n := n2
          have n3' : z = G n := n3
          subst n2' n3'
          have dgw : ∀ Hz, Same Hy Hz → DGet Hz wd (.str n) (some (.int (f n))) := fun Hz sz => by have := DGet.k (k := Sum.inr n) (sz _ _ (sy _ _ hwg)); rw [kvI_val nmes] at this; exact this
          have dgn : ∀ Hz, Same Hy Hz → DGet Hz nd (.str n) (some (.int (G n))) := fun Hz sz => by have := DGet.k (k := Sum.inr n) (sz _ _ (sy _ _ hnd)); rw [kvI_val nmes] at this; exact this
          refine ⟨_, rfl, q, _, 1, _, rfl, rfl, SqT.of hq, atI_nat (j := 1) rfl, _, rfl, q, _, 2, _, rfl, rfl, SqT.of hq, atI_nat (j := 2) rfl, (by show 2 ≤ sizeLine; decide), ?_⟩
          (intro u1 u10; generalize hh_ : upd _ u1 _ = Hz; have hu1 := upd_is hh_; have sz1 := same_is hh_ u10; clear hh_)
          have hqz := sz1 _ _ hq
          refine ⟨_, rfl, _, rfl, q, _, 0, _, rfl, rfl, SqT.of hqz, atI_nat (j := 0) rfl, nd, _, rfl, dgn Hz sz1, _, rfl, _, rfl, q, _, 0, _, rfl, rfl, SqT.of hqz, atI_nat (j := 0) rfl, wd, _, rfl, dgw Hz sz1, _, _, rfl, rfl, ?_⟩
          refine ⟨_, rfl, _, rfl, q, _, 0, _, rfl, rfl, SqT.of hqz, atI_nat (j := 0) rfl, nd, _, rfl, dgn Hz sz1, (by show 2 ≤ sizeLine; decide), ?_⟩
          (intro u2 u20; generalize hh_ : upd _ u2 _ = Hv; have hu2 := upd_is hh_; have sz2 := same_is hh_ u20; clear hh_)
          refine ⟨_, _, dp_two (sz2 _ _ hu1), dp_two hu2, rfl, rfl, (by show min 1 1 ≤ 64; decide), ?_⟩
          rw [SeqAt.eqv_refl_plain _ rfl]
          exact ⟨_, rfl, iteF ⟨sz2 _ _ (sz1 _ _ hd), sy.trans (sz1.trans sz2)⟩⟩
        · rintro Hy ⟨hd, sy⟩
          refine ⟨(by decide), ?_⟩
          (intro p1 p10; generalize hh_ : upd _ p1 _ = Hz; have hp1 := upd_is hh_; have sz1 := same_is hh_ p10; clear hh_)
          refine ⟨.list [], .list [], .lst (SqL.of (sz1 _ _ hd)) .nil, .lst (SqL.of hp1) .nil, rfl, rfl, (by decide), ⟨_, rfl, iteF ?_⟩⟩
          have sgz := sy.trans sz1
          clear hd sy sz1 hp1 p10
          have Wz := Wg.same sgz
          have hwz := sgz _ _ hwg
          have hnz := sgz _ _ hnd
          have hdz := sgz _ _ hdg
          have hrz := sgz _ _ hrows
          have imz := ImAll.tp (Tp.same sgz) imr
          have ht2z := sgz _ _ ht2
          clear hwg hnd hdg hrows imr ht2 Wg sgz d20 hd2
          dsimp only [gName, List.set]
          refine ⟨_, rfl, tl, rfl, ⟨_, SqL.of hrz⟩, fun d3 hd3 => ?_⟩
          have d30 : Hz d3 = none := hd3
          refine lc_list (K := K) (a := tl) (xs := rows) (fun u Hy => Hy d3 = some (.lst (((R.take u).map (·.1)).map V.str)) ∧ Same Hz Hy) ?_ ?_ ?_ ?_
          · exact ⟨upd_same, same_new d30⟩
          · exact fun u Hy _ ⟨_, sy⟩ => SqL.of (sy _ _ hrz)
          · rintro u x Hy hu ⟨hd, sy⟩
            obtain ⟨q, n, dv, z, rfl, mR, eR, hq⟩ := rows_at (ImAll.tp (Tp.same sy) imz) hu
            have lu := (List.getElem?_eq_some_iff.mp hu).1
            refine ⟨rfl, ?_⟩
            refine ⟨_, rfl, q, _, 0, _, rfl, rfl, SqT.of hq, atI_nat (j := 0) rfl, _, hd, ?_, ?_, ?_⟩
            · rw [List.length_map, List.length_map, List.length_take]
              exact small100 (by omega)
            · rw [upd_same, take_snoc eR, List.map_append, List.map_append]
              rfl
            · intro z o eo
              rw [upd_ne (ne_of_none eo d30)]
              exact sy _ _ eo
          · rintro Hy ⟨hd, sy⟩
            rw [l1, List.take_length] at hd
            refine ⟨d3, _, rfl, SqL.of hd, (by rw [List.length_map]; omega), fun ys s3 pm1 so1 s30 => ?_⟩
            have s3n : Hy s3 = none := s30
            have ss := sy.trans (same_new (o := .lst (ys.map V.str)) s3n)
            have hs3 : (upd Hy s3 (.lst (ys.map V.str))) s3 = some (.lst (ys.map V.str)) := upd_same
            generalize upd Hy s3 (.lst (ys.map V.str)) = H3 at *
            refine ⟨nd, _, ss _ _ hnz, trivial, fun od => ?_⟩
            have h3n := ss _ _ hnz
            have hl2 : (upd H3 nd (.frz od (.dK (kvI ((p.chs []).map hn) G)))) nd = some (.frz od (.dK (kvI ((p.chs []).map hn) G))) := upd_same
            have hl3 : ∀ q, q ≠ nd → (upd H3 nd (.frz od (.dK (kvI ((p.chs []).map hn) G)))) q = H3 q := fun q e => upd_ne e
            generalize hHl : upd H3 nd (.frz od (.dK (kvI ((p.chs []).map hn) G))) = Hl at *
            have hlw : Hl wd = some (.dK (kvI ((p.chs []).map hn) f)) := by rw [hl3 _ wdn]; exact ss _ _ hwz
            refine ⟨_, rfl, nd, od, rfl, .inl ⟨_, hl2, fun d4 hd4 => ?_⟩⟩
            have d40 : Hl d4 = none := hd4
            have few := est.few
            refine lc_it (walk_keys (d := nd) (o := od) (kvs := kvI ((p.chs []).map hn) G)) (fun u Hy => Hy d4 = some (.lst (((((p.chs []).map hn).take u).filter fun n => decide (G n ≠ f n)).map V.str)) ∧ Same Hl Hy) ?_ (fun u Hy _ ⟨_, sy⟩ => sy _ _ hl2) ?_ ?_
            · exact ⟨upd_same, same_new d40⟩
            · rintro u v Hq Hy hu ⟨w1, w2⟩ ⟨rfl, kk, vv, ek, rfl⟩
              unfold kvI at ek
              rw [List.getElem?_map] at ek
              obtain ⟨n, en, e⟩ := Option.map_eq_some_iff.mp ek
              cases e
              have nmes : n ∈ (p.chs []).map hn := List.mem_of_getElem? en
              have dgn : DGet Hy nd (.str n) (some (.int (G n))) := by have := DGet.z (k := Sum.inr n) (w2 _ _ hl2); rw [kvI_val nmes] at this; exact this
              have dgw : DGet Hy wd (.str n) (some (.int (f n))) := by have := DGet.k (k := Sum.inr n) (w2 _ _ hlw); rw [kvI_val nmes] at this; exact this
              refine ⟨rfl, ?_⟩
              refine ⟨_, rfl, _, rfl, nd, _, rfl, dgn, _, rfl, _, rfl, wd, _, rfl, dgw, rfl, _, rfl, ?_⟩
              rw [dec_ne_int]
              have lt : (((p.chs []).map hn).take u).length ≤ 30 := by rw [List.length_take, List.length_map]; omega
              refine ite2 (fun z => ?_) fun z => ?_
              · refine ⟨_, rfl, _, w1, ?_, ?_, ?_⟩
                · rw [List.length_map]
                  exact small100 (by have := List.length_filter_le (fun n => decide (G n ≠ f n)) (((p.chs []).map hn).take u); omega)
                · have ez : [n].filter (fun n => decide (G n ≠ f n)) = [n] := by rw [List.filter_cons_of_pos (p := fun n => decide (G n ≠ f n)) z]; rfl
                  rw [upd_same, take_snoc en, List.filter_append, List.map_append, ez]
                  rfl
                · intro z o eo
                  rw [upd_ne (ne_of_none eo d40)]
                  exact w2 _ _ eo
              · refine ⟨?_, w2⟩
                have ez : [n].filter (fun n => decide (G n ≠ f n)) = [] := by rw [List.filter_cons_of_neg (p := fun n => decide (G n ≠ f n)) z]; rfl
                rw [take_snoc en, List.filter_append, List.map_append, ez, List.map_nil, List.append_nil]
                exact w1
            · rintro Hy ⟨w1, w2⟩
              refine ⟨w2 _ _ hl2, ?_⟩
              rw [kvI_len, List.take_length] at w1
              have dnd : d4 ≠ nd := fun e => by rw [e, hl2] at d40; cases d40
              have s34 : Same H3 (upd Hy nd (.dK (kvI ((p.chs []).map hn) G))) := fun q o e => by
                by_cases z : q = nd
                · subst z
                  rw [h3n] at e
                  cases e
                  exact upd_same
                · rw [upd_ne z]
                  exact w2 _ _ (by rw [hl3 q z]; exact e)
              have hd4' : (upd Hy nd (.dK (kvI ((p.chs []).map hn) G))) d4 = some (.lst ((((p.chs []).map hn).filter fun n => decide (G n ≠ f n)).map V.str)) := by rw [upd_ne dnd]; exact w1
              generalize upd Hy nd (.dK (kvI ((p.chs []).map hn) G)) = H4 at *
              refine ⟨d4, _, rfl, SqL.of hd4', (by have := List.length_filter_le (fun n => decide (G n ≠ f n)) ((p.chs []).map hn); rw [List.length_map] at this; omega), fun ys2 s5 pm2 so2 s50 => ?_⟩
              have s5n : H4 s5 = none := s50
              have s45 := same_new (o := .lst (ys2.map V.str)) s5n
              have hs5 : (upd H4 s5 (.lst (ys2.map V.str))) s5 = some (.lst (ys2.map V.str)) := upd_same
              generalize upd H4 s5 (.lst (ys2.map V.str)) = H5 at *
              have ee : ys = ys2 := by
                refine sorted_same pm1 pm2 so1 so2 r2'.1 (est.nd.filter _) fun z => ?_
                rw [r2'.2 z, List.mem_filter]
                refine ⟨fun q => ⟨?_, decide_eq_true q⟩, fun q => of_decide_eq_true q.2⟩
                by_cases m : z ∈ ch.map (·.1)
                · exact chn z m
                · exact absurd (oth z m) q
              subst ee
              refine ⟨_, _, dp_strL (s45 _ _ (s34 _ _ hs3)), dp_strL hs5, plain_strs ys, plain_strs ys, (by show min (PyData.depthAll _ + 1) (PyData.depthAll _ + 1) ≤ 64; rw [depth_strs]; decide), ?_⟩
              rw [SeqAt.eqv_refl_plain (PyData.list (ys.map PyData.str)) (plain_strs ys)]
              refine ⟨_, rfl, iteF ?_⟩
              have sz5 := ss.trans (s34.trans s45)
              have W5 := Wz.same sz5
              have hw5 := sz5 _ _ hwz
              have hn5 := sz5 _ _ hnz
              have hd5 := sz5 _ _ hdz
              have ht25 := sz5 _ _ ht2z
              clear hwz hnz hdz hrz imz ht2z Wz sz5 s45 s34 hs5 s5n s50 hd4' h3n hl2 hl3 hlw hHl d40 hd4 w1 w2 dnd ss hs3 s3n s30 hd sy d30 hd3
              obtain ⟨⟨kv, kh, kp, ks, _⟩, hgl, _, _⟩ := id W5.A
              have dgp : ∀ Hz, Same H5 Hz → DGet Hz h (.str "parts") (some (.ref fd)) := fun Hz sz => by have := DGet.k (k := Sum.inr "parts") (sz _ _ kh); rw [kp] at this; exact this
              refine ⟨_, rfl, h, _, rfl, dgp _ (Same.refl _), _, rfl, _, rfl, dl, _, 0, _, rfl, rfl, SqL.of hd5, atI_nat (j := 0) rfl, _, rfl, _, rfl, _, rfl, t2, _, 0, _, rfl, rfl, SqT.of ht25, atI_nat (j := 0) rfl, ?_⟩
              refine ⟨H8, fd, wd, nd, true, z1, _, ch, p.chs [], (p.chs []).map hn, f, G, rfl, W5.L, hw5, hn5, ⟨by omega, by omega⟩, hch, est.cl, fun n hn => hn, ga, fun H6 s6 => ⟨_, rfl, iteF ?_⟩⟩
              refine ⟨_, rfl, h, _, rfl, dgp _ s6, _, rfl, _, rfl, dl, _, 1, _, rfl, rfl, SqL.of (s6 _ _ hd5), atI_nat (j := 1) rfl, _, rfl, _, rfl, _, rfl, t2, _, 1, _, rfl, rfl, SqT.of (s6 _ _ ht25), atI_nat (j := 1) rfl, ?_⟩
              refine ⟨H8, fd, wd, nd, false, z2, _, ch, p.chs [], (p.chs []).map hn, f, G, rfl, (W5.same s6).L, s6 _ _ hw5, s6 _ _ hn5, ⟨by omega, by omega⟩, hch, est.cl, fun n hn => hn, gb, fun H7 s67 => ⟨_, rfl, iteF ?_⟩⟩
              have s7 := s6.trans s67
              have W7 := W5.same s7
              have hw7 := s7 _ _ hw5
              have hn7 := s7 _ _ hn5
              clear hw5 hn5 hd5 ht25 dgp kh kp ks hgl W5 s6 s67 s7
              refine ⟨nd, _, hn7, trivial, fun od2 => ?_⟩
              have hl2 : (upd H7 nd (.frz od2 (.dK (kvI ((p.chs []).map hn) G)))) nd = some (.frz od2 (.dK (kvI ((p.chs []).map hn) G))) := upd_same
              have hl3 : ∀ q, q ≠ nd → (upd H7 nd (.frz od2 (.dK (kvI ((p.chs []).map hn) G)))) q = H7 q := fun q e => upd_ne e
              generalize hHl : upd H7 nd (.frz od2 (.dK (kvI ((p.chs []).map hn) G))) = Hl at *
              have f7l : Fr [nd] H7 Hl := fun q o e nq => by rw [hl3 q (by simpa using nq)]; exact e
              have t7l : Tp H7 Hl := fun q xs e => f7l q _ e (by simp; rintro rfl; rw [hn7] at e; cases e)
              have Al : HeldAt H8 Hl h fd sp gl := W7.A.keep f7l (by simpa using hnd2.1) (by simp; rintro rfl; have := W7.A.g; rw [hn7] at this; cases this)
              have Ll : LP H8 Hl fd (p.chs []) := W7.L.keepY f7l t7l (fun z hz => by rw [List.mem_singleton.mp hz]; exact ⟨hnd2.2.symm, .inr ⟨_, _, hn7⟩⟩)
              refine ⟨_, rfl, nd, od2, rfl, .inl ⟨_, hl2, fun d6 hd6 => ?_⟩⟩
              have d60 : Hl d6 = none := hd6
              refine lc_it (walk_keys (d := nd) (o := od2) (kvs := kvI ((p.chs []).map hn) G)) (fun u Hy => Hy d6 = some (.lst (((((p.chs []).map hn).take u).filter fun n => decide (n ∉ ch.map (·.1))).map V.str)) ∧ Same Hl Hy) ?_ (fun u Hy _ ⟨_, sy⟩ => sy _ _ hl2) ?_ ?_
              · exact ⟨upd_same, same_new d60⟩
              · rintro u v Hq Hy hu ⟨w1, w2⟩ ⟨rfl, kk, vv, ek, rfl⟩
                unfold kvI at ek
                rw [List.getElem?_map] at ek
                obtain ⟨n, en, e⟩ := Option.map_eq_some_iff.mp ek
                cases e
                have lt : (((p.chs []).map hn).take u).length ≤ 30 := by rw [List.length_take, List.length_map]; omega
                refine ⟨rfl, ?_⟩
                refine ⟨_, rfl, _, rfl, _, rfl, ?_⟩
                refine ⟨H8, h, fd, sp, gl, ch, p.chs [], rfl, Al.keep (S := []) (Fr.same w2 _) (by simp) (by simp), Ll.keepY (S := []) (Fr.same w2 _) (Tp.same w2) (fun _ h => nomatch h), hch, est.cl, est.ln ch hch, fun Hz q q0 hq sz => ?_⟩
                refine ⟨q, _, rfl, .inl (SqL.of hq), rfl, all_flat _, ?_⟩
                refine ⟨_, rfl, ?_⟩
                rw [if_pos rfl, show (!inV (kV (Sum.inr n)) ((ch.map (·.1)).map V.str)) = decide (n ∉ ch.map (·.1)) from nin_strs n _]
                have w1z := sz _ _ w1
                refine ite2 (fun z => ?_) fun z => ?_
                · have ez : [n].filter (fun n => decide (n ∉ ch.map (·.1))) = [n] := by rw [List.filter_cons_of_pos (p := fun n => decide (n ∉ ch.map (·.1))) z]; rfl
                  refine ⟨_, rfl, _, w1z, ?_, ?_, ?_⟩
                  · rw [List.length_map]
                    exact small100 (by have := List.length_filter_le (fun n => decide (n ∉ ch.map (·.1))) (((p.chs []).map hn).take u); omega)
                  · rw [upd_same, take_snoc en, List.filter_append, List.map_append, ez]
                    rfl
                  · intro z o eo
                    rw [upd_ne (ne_of_none eo d60)]
                    exact sz _ _ (w2 _ _ eo)
                · have ez : [n].filter (fun n => decide (n ∉ ch.map (·.1))) = [] := by rw [List.filter_cons_of_neg (p := fun n => decide (n ∉ ch.map (·.1))) z]; rfl
                  refine ⟨?_, w2.trans sz⟩
                  rw [take_snoc en, List.filter_append, List.map_append, ez, List.map_nil, List.append_nil]
                  exact w1z
              · rintro Hy ⟨w1, w2⟩
                rw [kvI_len, List.take_length] at w1
                refine ⟨w2 _ _ hl2, ?_⟩
                have dnd : d6 ≠ nd := fun e => by rw [e, hl2] at d60; cases d60
                have s79 : Same H7 (upd Hy nd (.dK (kvI ((p.chs []).map hn) G))) := fun q o e => by
                  by_cases z : q = nd
                  · subst z
                    rw [hn7] at e
                    cases e
                    exact upd_same
                  · rw [upd_ne z]
                    exact w2 _ _ (by rw [hl3 q z]; exact e)
                have hd6' : (upd Hy nd (.dK (kvI ((p.chs []).map hn) G))) d6 = some (.lst ((((p.chs []).map hn).filter fun n => decide (n ∉ ch.map (·.1))).map V.str)) := by rw [upd_ne dnd]; exact w1
                generalize upd Hy nd (.dK (kvI ((p.chs []).map hn) G)) = H9 at *
                have W9 := W7.same s79
                have hw9 := s79 _ _ hw7
                have hn9 := s79 _ _ hn7
                clear W7 hw7 hn7 s79 w1 w2 hl2 hl3 hHl f7l t7l Al Ll d60 hd6 dnd
                refine ⟨_, rfl, d6, rfl, ⟨_, SqL.of hd6'⟩, fun d7 hd7 => ?_⟩
                have d70 : H9 d7 = none := hd7
                refine lc_list (K := K) (a := d6) (xs := (((p.chs []).map hn).filter fun n => decide (n ∉ ch.map (·.1))).map V.str) (fun u Hy => Hy d7 = some (.lst []) ∧ Same H9 Hy) ?_ ?_ ?_ ?_
                · exact ⟨upd_same, same_new d70⟩
                · exact fun u Hy _ ⟨_, sy⟩ => SqL.of (sy _ _ hd6')
                · rintro u x Hy hu ⟨hd, sy⟩
                  rw [List.getElem?_map] at hu
                  obtain ⟨n, en, rfl⟩ := Option.map_eq_some_iff.mp hu
                  obtain ⟨nmes, nz⟩ := List.mem_filter.mp (List.mem_of_getElem? en)
                  have eqv := oth n (of_decide_eq_true nz)
                  have dgn : DGet Hy nd (.str n) (some (.int (G n))) := by have := DGet.k (k := Sum.inr n) (sy _ _ hn9); rw [kvI_val nmes] at this; exact this
                  have dgw : DGet Hy wd (.str n) (some (.int (f n))) := by have := DGet.k (k := Sum.inr n) (sy _ _ hw9); rw [kvI_val nmes] at this; exact this
                  refine ⟨rfl, ?_⟩
                  refine ⟨_, rfl, _, rfl, nd, _, rfl, dgn, _, rfl, _, rfl, wd, _, rfl, dgw, rfl, _, rfl, ?_⟩
                  rw [dec_ne_int, decide_eq_false (fun z => z eqv)]
                  exact iteF ⟨hd, sy⟩
                · rintro Hy ⟨hd, sy⟩
                  refine ⟨(by decide), ?_⟩
                  (intro p1 p10; generalize hh_ : upd _ p1 _ = Hz; have hp1 := upd_is hh_; have sz1 := same_is hh_ p10; clear hh_)
                  refine ⟨.list [], .list [], .lst (SqL.of (sz1 _ _ hd)) .nil, .lst (SqL.of hp1) .nil, rfl, rfl, (by decide), ⟨_, rfl, iteF ?_⟩⟩
                  exact ⟨_, _, _, _, _, _, _, _, _, _, _, rfl, ((W9.same sy).same sz1).mono (by omega)⟩
    · rintro σ Hx ⟨f, k6, k7, k8, k9, k10, k11, k12, k13, k14, k15, rfl, W⟩
      exact ⟨_, _, _, _, _, _, _, _, _, _, _, _, _, _, rfl, W.T.mono (by omega)⟩
  · rintro σ Hz ⟨k2, k3, k4, k5, k6, k7, k8, k9, k10, k11, k12, k13, k14, k15, rfl, Tz⟩
    exact k _
end
end SG
namespace SG
open PySem PySem.Spec PyProof.Rows L2
theorem all_mk {l : PySem.W.OpenLaw} {w : World} {K : PySem.W.Frag} {h : Heap} {mg : Str → Option Value} {fa f1 f2 f3 f4 f5 f6 f7 f8 f9 f10 f11 f12 f13 f14 f15 f16 f17 CShelves : Addr} (X : K.In h) (G : h.Ns mainGlobals mg) (hfa : mg "law" = some (.ref fa)) {od1 an1 od2 an2 od3 an3 od4 an4 od5 an5 od6 an6 od7 an7 od8 an8 od9 an9 od10 an10 od11 an11 od12 an12 od13 an13 od14 an14 od15 an15 od16 an16 od17 an17 : Option Addr} {sl1 sl2 sl3 sl4 sl5 sl6 sl7 sl8 sl9 sl10 sl11 sl12 sl13 sl14 sl15 sl16 sl17 : Array (Option Value)} {oc1 kV1 dc1 pm1 cd1 ct1 oc2 kV2 dc2 pm2 cd2 ct2 oc3 kV3 dc3 pm3 cd3 ct3 oc4 kV4 dc4 pm4 cd4 ct4 oc5 kV5 dc5 pm5 cd5 ct5 oc6 kV6 dc6 pm6 cd6 ct6 oc7 kV7 dc7 pm7 cd7 ct7 oc8 kV8 dc8 pm8 cd8 ct8 oc9 kV9 dc9 pm9 cd9 ct9 oc10 kV10 dc10 pm10 cd10 ct10 oc11 kV11 dc11 pm11 cd11 ct11 oc12 kV12 dc12 pm12 cd12 ct12 oc13 kV13 dc13 pm13 cd13 ct13 oc14 kV14 dc14 pm14 cd14 ct14 oc15 kV15 dc15 pm15 cd15 ct15 oc16 kV16 dc16 pm16 cd16 ct16 oc17 kV17 dc17 pm17 cd17 ct17 : Value} {tNAME tSHELF tPARTS : Tok}
    (a1 : PySem.W.nsIn K mainGlobals "_law_begun" = some (some (.ref f1)))
    (l1 : K.lookup f1 = some ⟨oc1, od1, .func (PySem.W.fnOf "_law_begun" "_law_begun" (defArgs s_law_begun) (defBody s_law_begun) (defScope s_law_begun) .none kV1 dc1 pm1 an1 cd1 ct1), sl1⟩)
    (c1 : PySem.W.codeIn K cd1 "_law_begun" = true)
    (k1 : PySem.W.keepIn K (.ref f1) = true)
    (a2 : PySem.W.nsIn K mainGlobals "_law_draw" = some (some (.ref f2)))
    (l2 : K.lookup f2 = some ⟨oc2, od2, .func (PySem.W.fnOf "_law_draw" "_law_draw" (defArgs s_law_draw) (defBody s_law_draw) (defScope s_law_draw) .none kV2 dc2 pm2 an2 cd2 ct2), sl2⟩)
    (c2 : PySem.W.codeIn K cd2 "_law_draw" = true)
    (k2 : PySem.W.keepIn K (.ref f2) = true)
    (a3 : PySem.W.nsIn K mainGlobals "_law_pick" = some (some (.ref f3)))
    (l3 : K.lookup f3 = some ⟨oc3, od3, .func (PySem.W.fnOf "_law_pick" "_law_pick" (defArgs s_law_pick) (defBody s_law_pick) (defScope s_law_pick) .none kV3 dc3 pm3 an3 cd3 ct3), sl3⟩)
    (c3 : PySem.W.codeIn K cd3 "_law_pick" = true)
    (k3 : PySem.W.keepIn K (.ref f3) = true)
    (a4 : PySem.W.nsIn K mainGlobals "_law_shelved" = some (some (.ref f4)))
    (l4 : K.lookup f4 = some ⟨oc4, od4, .func (PySem.W.fnOf "_law_shelved" "_law_shelved" (defArgs s_law_shelved) (defBody s_law_shelved) (defScope s_law_shelved) .none kV4 dc4 pm4 an4 cd4 ct4), sl4⟩)
    (c4 : PySem.W.codeIn K cd4 "_law_shelved" = true)
    (k4 : PySem.W.keepIn K (.ref f4) = true)
    (a5 : PySem.W.nsIn K mainGlobals "_law_spelled" = some (some (.ref f5)))
    (l5 : K.lookup f5 = some ⟨oc5, od5, .func (PySem.W.fnOf "_law_spelled" "_law_spelled" (defArgs s_law_spelled) (defBody s_law_spelled) (defScope s_law_spelled) .none kV5 dc5 pm5 an5 cd5 ct5), sl5⟩)
    (c5 : PySem.W.codeIn K cd5 "_law_spelled" = true)
    (k5 : PySem.W.keepIn K (.ref f5) = true)
    (a6 : PySem.W.nsIn K mainGlobals "_law_wished" = some (some (.ref f6)))
    (l6 : K.lookup f6 = some ⟨oc6, od6, .func (PySem.W.fnOf "_law_wished" "_law_wished" (defArgs s_law_wished) (defBody s_law_wished) (defScope s_law_wished) .none kV6 dc6 pm6 an6 cd6 ct6), sl6⟩)
    (c6 : PySem.W.codeIn K cd6 "_law_wished" = true)
    (k6 : PySem.W.keepIn K (.ref f6) = true)
    (a7 : PySem.W.nsIn K mainGlobals "_law_drawn" = some (some (.ref f7)))
    (l7 : K.lookup f7 = some ⟨oc7, od7, .func (PySem.W.fnOf "_law_drawn" "_law_drawn" (defArgs s_law_drawn) (defBody s_law_drawn) (defScope s_law_drawn) .none kV7 dc7 pm7 an7 cd7 ct7), sl7⟩)
    (c7 : PySem.W.codeIn K cd7 "_law_drawn" = true)
    (k7 : PySem.W.keepIn K (.ref f7) = true)
    (a8 : PySem.W.nsIn K mainGlobals "_law_parts" = some (some (.ref f8)))
    (l8 : K.lookup f8 = some ⟨oc8, od8, .func (PySem.W.fnOf "_law_parts" "_law_parts" (defArgs s_law_parts) (defBody s_law_parts) (defScope s_law_parts) .none kV8 dc8 pm8 an8 cd8 ct8), sl8⟩)
    (c8 : PySem.W.codeIn K cd8 "_law_parts" = true)
    (k8 : PySem.W.keepIn K (.ref f8) = true)
    (a9 : PySem.W.nsIn K mainGlobals "_law_own" = some (some (.ref f9)))
    (l9 : K.lookup f9 = some ⟨oc9, od9, .func (PySem.W.fnOf "_law_own" "_law_own" (defArgs s_law_own) (defBody s_law_own) (defScope s_law_own) .none kV9 dc9 pm9 an9 cd9 ct9), sl9⟩)
    (c9 : PySem.W.codeIn K cd9 "_law_own" = true)
    (k9 : PySem.W.keepIn K (.ref f9) = true)
    (a10 : PySem.W.nsIn K mainGlobals "_law_is_whole" = some (some (.ref f10)))
    (l10 : K.lookup f10 = some ⟨oc10, od10, .func (PySem.W.fnOf "_law_is_whole" "_law_is_whole" (defArgs s_law_is_whole) (defBody s_law_is_whole) (defScope s_law_is_whole) .none kV10 dc10 pm10 an10 cd10 ct10), sl10⟩)
    (c10 : PySem.W.codeIn K cd10 "_law_is_whole" = true)
    (k10 : PySem.W.keepIn K (.ref f10) = true)
    (a11 : PySem.W.nsIn K mainGlobals "_law_about" = some (some (.ref f11)))
    (l11 : K.lookup f11 = some ⟨oc11, od11, .func (PySem.W.fnOf "_law_about" "_law_about" (defArgs s_law_about) (defBody s_law_about) (defScope s_law_about) .none kV11 dc11 pm11 an11 cd11 ct11), sl11⟩)
    (c11 : PySem.W.codeIn K cd11 "_law_about" = true)
    (k11 : PySem.W.keepIn K (.ref f11) = true)
    (a12 : PySem.W.nsIn K mainGlobals "law" = some (some (.ref f12)))
    (l12 : K.lookup f12 = some ⟨oc12, od12, .func (PySem.W.fnOf "law" "law" (defArgs slaw) (defBody slaw) (defScope slaw) .none kV12 dc12 pm12 an12 cd12 ct12), sl12⟩)
    (c12 : PySem.W.codeIn K cd12 "law" = true)
    (k12 : PySem.W.keepIn K (.ref f12) = true)
    (aCShelves : PySem.W.nsIn K mainGlobals "Shelves" = some (some (.ref CShelves)))
    (pgShelves : PySem.W.plainGet K CShelves Str.empty = true)
    (hdShelves : PySem.W.hasDictIn K CShelves = true)
    (poShelves : PySem.W.plainOver K CShelves = true)
    (saShelves : PySem.W.findIn K (.ref CShelves) "__setattr__" = some (some (.builtin "object.__setattr__")))
    (mkShelves : PySem.W.makesIn K CShelves = true)
    (kcShelves : PySem.W.keepIn K (.ref CShelves) = true)
    (nShelves_outward : PySem.W.findIn K (.ref CShelves) "_outward" = some none)
    (nShelves_places : PySem.W.findIn K (.ref CShelves) "_places" = some none)
    (nShelves_scene : PySem.W.findIn K (.ref CShelves) "_scene" = some none)
    (nShelves_shelves : PySem.W.findIn K (.ref CShelves) "_shelves" = some none)
    (a13 : PySem.W.findIn K (.ref CShelves) "__init__" = some (some (.ref f13)))
    (i13 : PySem.W.isFn K (.ref f13) = true)
    (l13 : K.lookup f13 = some ⟨oc13, od13, .func (PySem.W.fnOf "__init__" "Shelves.__init__" (defArgs s__init__) (defBody s__init__) (defScope s__init__) .none kV13 dc13 pm13 an13 cd13 ct13), sl13⟩)
    (c13 : PySem.W.codeIn K cd13 "Shelves.__init__" = true)
    (k13 : PySem.W.keepIn K (.ref f13) = true)
    (a14 : PySem.W.findIn K (.ref CShelves) "step" = some (some (.ref f14)))
    (i14 : PySem.W.isFn K (.ref f14) = true)
    (l14 : K.lookup f14 = some ⟨oc14, od14, .func (PySem.W.fnOf "step" "Shelves.step" (defArgs sstep) (defBody sstep) (defScope sstep) .none kV14 dc14 pm14 an14 cd14 ct14), sl14⟩)
    (c14 : PySem.W.codeIn K cd14 "Shelves.step" = true)
    (k14 : PySem.W.keepIn K (.ref f14) = true)
    (a15 : PySem.W.findIn K (.ref CShelves) "places" = some (some (.ref f15)))
    (i15 : PySem.W.isFn K (.ref f15) = true)
    (l15 : K.lookup f15 = some ⟨oc15, od15, .func (PySem.W.fnOf "places" "Shelves.places" (defArgs splaces) (defBody splaces) (defScope splaces) .none kV15 dc15 pm15 an15 cd15 ct15), sl15⟩)
    (c15 : PySem.W.codeIn K cd15 "Shelves.places" = true)
    (k15 : PySem.W.keepIn K (.ref f15) = true)
    (a16 : PySem.W.findIn K (.ref CShelves) "_put_in" = some (some (.ref f16)))
    (i16 : PySem.W.isFn K (.ref f16) = true)
    (l16 : K.lookup f16 = some ⟨oc16, od16, .func (PySem.W.fnOf "_put_in" "Shelves._put_in" (defArgs s_put_in) (defBody s_put_in) (defScope s_put_in) .none kV16 dc16 pm16 an16 cd16 ct16), sl16⟩)
    (c16 : PySem.W.codeIn K cd16 "Shelves._put_in" = true)
    (k16 : PySem.W.keepIn K (.ref f16) = true)
    (a17 : PySem.W.findIn K (.ref CShelves) "_take" = some (some (.ref f17)))
    (i17 : PySem.W.isFn K (.ref f17) = true)
    (l17 : K.lookup f17 = some ⟨oc17, od17, .func (PySem.W.fnOf "_take" "Shelves._take" (defArgs s_take) (defBody s_take) (defScope s_take) .none kV17 dc17 pm17 an17 cd17 ct17), sl17⟩)
    (c17 : PySem.W.codeIn K cd17 "Shelves._take" = true)
    (k17 : PySem.W.keepIn K (.ref f17) = true)
    (zdict : PySem.W.nsIn K mainGlobals "dict" = some none)
    (zint : PySem.W.nsIn K mainGlobals "int" = some none)
    (zlen : PySem.W.nsIn K mainGlobals "len" = some none)
    (zlist : PySem.W.nsIn K mainGlobals "list" = some none)
    (zmax : PySem.W.nsIn K mainGlobals "max" = some none)
    (zmin : PySem.W.nsIn K mainGlobals "min" = some none)
    (zrange : PySem.W.nsIn K mainGlobals "range" = some none)
    (zsorted : PySem.W.nsIn K mainGlobals "sorted" = some none)
    (ztuple : PySem.W.nsIn K mainGlobals "tuple" = some none)
    (yNAME : PySem.W.nsIn K mainGlobals "NAME" = some (some (.int 0 tNAME)))
    (ySHELF : PySem.W.nsIn K mainGlobals "SHELF" = some (some (.int 3 tSHELF)))
    (yPARTS : PySem.W.nsIn K mainGlobals "PARTS" = some (some (.int 5 tPARTS)))
    : ∃ fd : FuncData, (∀ (s : Shared) (v : Value), BindsTo s fd ⟨[v], []⟩ [("_law_script", v)]) ∧ ∀ base : Heap, K.In base → base.Ns mainGlobals mg → FnG l.prog w K mg base 10 fa fd ["_law_script"] (spLaw K) := by
  have e := hfa.symm.trans (PySem.W.mg_of X G a12)
  cases e
  have T : Txt K mg := ⟨PySem.W.mg_none_of X G zdict, PySem.W.mg_none_of X G zint, PySem.W.mg_none_of X G zlen, PySem.W.mg_none_of X G zlist, PySem.W.mg_none_of X G zmax, PySem.W.mg_none_of X G zmin, PySem.W.mg_none_of X G zrange, PySem.W.mg_none_of X G zsorted, PySem.W.mg_none_of X G ztuple, ⟨_, PySem.W.mg_of X G yNAME⟩, ⟨_, PySem.W.mg_of X G ySHELF⟩, ⟨_, PySem.W.mg_of X G yPARTS⟩⟩
  have TShelves : TxShelves K mg CShelves := ⟨⟨pgShelves, hdShelves, poShelves, saShelves⟩, PySem.W.mg_of X G aCShelves, nShelves_outward, nShelves_places, nShelves_scene, nShelves_shelves⟩
  have F13 := fun_mk (st := s__init__) l13 c13 k13
  have D__init__ : Di K mg "Shelves" CShelves "Shelves.__init__" s__init__ ["self", "scene"] := ⟨⟨_, _, ⟨mkShelves, a13, i13, kcShelves⟩, PySem.W.mg_of X G aCShelves, F13, F13.binds (ps := ["self", "scene"]) fun _ _ _ _ _ _ us hl => match us, hl with | [_, _], _ => rfl⟩⟩
  have F14 := fun_mk (st := sstep) l14 c14 k14
  have Dstep : Dm K mg CShelves "step" "Shelves.step" sstep ["self", "name", "dx", "dy"] := ⟨⟨_, _, TShelves.cl, ⟨a14, i14, k14⟩, F14, F14.binds (ps := ["self", "name", "dx", "dy"]) fun _ _ _ _ _ _ us hl => match us, hl with | [_, _, _, _], _ => rfl⟩⟩
  have F15 := fun_mk (st := splaces) l15 c15 k15
  have Dplaces : Dm K mg CShelves "places" "Shelves.places" splaces ["self"] := ⟨⟨_, _, TShelves.cl, ⟨a15, i15, k15⟩, F15, F15.binds (ps := ["self"]) fun _ _ _ _ _ _ us hl => match us, hl with | [_], _ => rfl⟩⟩
  have F16 := fun_mk (st := s_put_in) l16 c16 k16
  have D_put_in : Dm K mg CShelves "_put_in" "Shelves._put_in" s_put_in ["self", "part", "outer"] := ⟨⟨_, _, TShelves.cl, ⟨a16, i16, k16⟩, F16, F16.binds (ps := ["self", "part", "outer"]) fun _ _ _ _ _ _ us hl => match us, hl with | [_, _, _], _ => rfl⟩⟩
  have F17 := fun_mk (st := s_take) l17 c17 k17
  have D_take : Dm K mg CShelves "_take" "Shelves._take" s_take ["self", "taken", "name", "way", "left"] := ⟨⟨_, _, TShelves.cl, ⟨a17, i17, k17⟩, F17, F17.binds (ps := ["self", "taken", "name", "way", "left"]) fun _ _ _ _ _ _ us hl => match us, hl with | [_, _, _, _, _], _ => rfl⟩⟩
  have F1 := fun_mk (st := s_law_begun) l1 c1 k1
  have D_law_begun : Df K mg "_law_begun" s_law_begun ["_law_script"] := ⟨⟨_, _, F1, PySem.W.mg_of X G a1, F1.binds (ps := ["_law_script"]) fun _ _ _ _ _ _ us hl => match us, hl with | [_], _ => rfl⟩⟩
  have F2 := fun_mk (st := s_law_draw) l2 c2 k2
  have D_law_draw : Df K mg "_law_draw" s_law_draw ["_law_tape", "_law_many"] := ⟨⟨_, _, F2, PySem.W.mg_of X G a2, F2.binds (ps := ["_law_tape", "_law_many"]) fun _ _ _ _ _ _ us hl => match us, hl with | [_, _], _ => rfl⟩⟩
  have F3 := fun_mk (st := s_law_pick) l3 c3 k3
  have D_law_pick : Df K mg "_law_pick" s_law_pick ["_law_tape", "_law_some"] := ⟨⟨_, _, F3, PySem.W.mg_of X G a3, F3.binds (ps := ["_law_tape", "_law_some"]) fun _ _ _ _ _ _ us hl => match us, hl with | [_, _], _ => rfl⟩⟩
  have F4 := fun_mk (st := s_law_shelved) l4 c4 k4
  have D_law_shelved : Df K mg "_law_shelved" s_law_shelved ["_law_tape", "_law_part"] := ⟨⟨_, _, F4, PySem.W.mg_of X G a4, F4.binds (ps := ["_law_tape", "_law_part"]) fun _ _ _ _ _ _ us hl => match us, hl with | [_, _], _ => rfl⟩⟩
  have F5 := fun_mk (st := s_law_spelled) l5 c5 k5
  have D_law_spelled : Df K mg "_law_spelled" s_law_spelled ["_law_tape"] := ⟨⟨_, _, F5, PySem.W.mg_of X G a5, F5.binds (ps := ["_law_tape"]) fun _ _ _ _ _ _ us hl => match us, hl with | [_], _ => rfl⟩⟩
  have F6 := fun_mk (st := s_law_wished) l6 c6 k6
  have D_law_wished : Df K mg "_law_wished" s_law_wished ["_law_tape", "_law_word", "_law_pulls"] := ⟨⟨_, _, F6, PySem.W.mg_of X G a6, F6.binds (ps := ["_law_tape", "_law_word", "_law_pulls"]) fun _ _ _ _ _ _ us hl => match us, hl with | [_, _, _], _ => rfl⟩⟩
  have F7 := fun_mk (st := s_law_drawn) l7 c7 k7
  have D_law_drawn : Df K mg "_law_drawn" s_law_drawn ["_law_tape", "_law_pulls"] := ⟨⟨_, _, F7, PySem.W.mg_of X G a7, F7.binds (ps := ["_law_tape", "_law_pulls"]) fun _ _ _ _ _ _ us hl => match us, hl with | [_, _], _ => rfl⟩⟩
  have F8 := fun_mk (st := s_law_parts) l8 c8 k8
  have D_law_parts : Df K mg "_law_parts" s_law_parts ["_law_part", "_law_outer", "_law_found"] := ⟨⟨_, _, F8, PySem.W.mg_of X G a8, F8.binds (ps := ["_law_part", "_law_outer", "_law_found"]) fun _ _ _ _ _ _ us hl => match us, hl with | [_, _, _], _ => rfl⟩⟩
  have F9 := fun_mk (st := s_law_own) l9 c9 k9
  have D_law_own : Df K mg "_law_own" s_law_own ["_law_scene", "_law_far", "_law_pause", "_law_is_guessing"] := ⟨⟨_, _, F9, PySem.W.mg_of X G a9, F9.binds (ps := ["_law_scene", "_law_far", "_law_pause", "_law_is_guessing"]) fun _ _ _ _ _ _ us hl => match us, hl with | [_, _, _, _], _ => rfl⟩⟩
  have F10 := fun_mk (st := s_law_is_whole) l10 c10 k10
  have D_law_is_whole : Df K mg "_law_is_whole" s_law_is_whole ["_law_parts_here", "_law_name", "_law_way", "_law_step", "_law_was", "_law_now", "_law_left"] := ⟨⟨_, _, F10, PySem.W.mg_of X G a10, F10.binds (ps := ["_law_parts_here", "_law_name", "_law_way", "_law_step", "_law_was", "_law_now", "_law_left"]) fun _ _ _ _ _ _ us hl => match us, hl with | [_, _, _, _, _, _, _], _ => rfl⟩⟩
  have F11 := fun_mk (st := s_law_about) l11 c11 k11
  have D_law_about : Df K mg "_law_about" s_law_about ["_law_held", "_law_name"] := ⟨⟨_, _, F11, PySem.W.mg_of X G a11, F11.binds (ps := ["_law_held", "_law_name"]) fun _ _ _ _ _ _ us hl => match us, hl with | [_, _], _ => rfl⟩⟩
  have F12 := fun_mk (st := slaw) l12 c12 k12
  refine ⟨PySem.W.fnOf "law" "law" (defArgs slaw) (defBody slaw) (defScope slaw) .none kV12 dc12 pm12 an12 cd12 ct12, fun s v => .of_eq rfl, fun base _ _ => ?_⟩
  have Flaw := F12
  have put := all_put (P := l.prog) (w := w) (base := base) D_put_in T TShelves 6
  have ini := ok_init D__init__ T TShelves put
  have take := ok_take (P := l.prog) (w := w) (base := base) D_take T TShelves
  have step := ok_step Dstep T TShelves take
  have plcs := ok_places (P := l.prog) (w := w) (base := base) Dplaces T TShelves
  have draw := ok_draw (P := l.prog) (w := w) (base := base) D_law_draw T
  have pick := ok_pick D_law_pick T draw
  have drawn := ok_drawn D_law_drawn T draw pick (ok_spelled D_law_spelled T draw pick) (ok_wished D_law_wished T draw pick)
  have own := ok_own D_law_own T (all_parts (P := l.prog) (w := w) (base := base) D_law_parts T 6)
  exact ok_law Flaw T TShelves (ok_begun D_law_begun T) draw drawn (all_shelved D_law_shelved T draw pick 6) ini own pick (ok_whole D_law_is_whole T) (ok_about D_law_about T) step plcs
theorem walk {l : PySem.W.OpenLaw} {q : Program} {loose : List Str} {XP : (Str → Option Value) → Heap → Prop} {YP : World → Heap → Prop} {d : DefRec} {K : Params → PySem.W.Frag} (hn : l.most = some 63) (hdf : d.params.defaults = [])
    (hY : ∀ (w : World) (h : Heap), YP w h → (K w.params).In h)
    (F : ∀ (w : World) (mg : Str → Option Value) (fa : Addr) (h : Heap), (K w.params).In h → h.Ns mainGlobals mg → mg d.name = some (.ref fa) →
      ∃ fd : FuncData, (∀ (s : Shared) (u : Value), BindsTo s fd ⟨[u], []⟩ [("_law_script", u)]) ∧ ∀ base : Heap, (K w.params).In base → base.Ns mainGlobals mg → FnG l.prog w (K w.params) mg base 10 fa fd ["_law_script"] (spLaw (K w.params))) :
    PySem.W.WalkO q loose XP YP l.row.toRowW d [] (fun f vs => PySem.call f vs) :=
  walkG (n := 63) (k := 10) (x := "_law_script") (sp := fun w => spLaw (K w.params)) hn (by decide) hdf ⟨rfl, by decide, by decide⟩ hY F fun _ _ a ns hl _ hS => ⟨a, ns, rfl, hS, hl, fun _ => rfl⟩
end SG
open PySem PySem.W PyProof.Rows
set_option maxRecDepth 100000 in
set_option maxHeartbeats 0 in
theorem PySem.Challenge.cw_strokeguess_k42_steps_kept_whole_holds : PySem.Challenge.rw_strokeguess_k42_steps_kept_whole.Holds := by
  w_on; o_law; k_head; (case hw => w_witness2)
  k_fill
  refine SG.walk (l := PySem.Challenge.rw_strokeguess_k42_steps_kept_whole) rfl rfl (fun w h Y => PySem.W.kIn_of Y) ?F
  case F =>
    intro w mg fa h KX G hmg
    refine' SG.all_mk KX G hmg ?a1 ?l1 ?c1 ?k1 ?a2 ?l2 ?c2 ?k2 ?a3 ?l3 ?c3 ?k3 ?a4 ?l4 ?c4 ?k4 ?a5 ?l5 ?c5 ?k5 ?a6 ?l6 ?c6 ?k6 ?a7 ?l7 ?c7 ?k7 ?a8 ?l8 ?c8 ?k8 ?a9 ?l9 ?c9 ?k9 ?a10 ?l10 ?c10 ?k10 ?a11 ?l11 ?c11 ?k11 ?a12 ?l12 ?c12 ?k12 ?aCShelves ?pgShelves ?hdShelves ?poShelves ?saShelves ?mkShelves ?kcShelves ?nShelves_outward ?nShelves_places ?nShelves_scene ?nShelves_shelves ?a13 ?i13 ?l13 ?c13 ?k13 ?a14 ?i14 ?l14 ?c14 ?k14 ?a15 ?i15 ?l15 ?c15 ?k15 ?a16 ?i16 ?l16 ?c16 ?k16 ?a17 ?i17 ?l17 ?c17 ?k17 ?zdict ?zint ?zlen ?zlist ?zmax ?zmin ?zrange ?zsorted ?ztuple ?yNAME ?ySHELF ?yPARTS
    (case a1 => k_is)
    (case l1 => k_is)
    (case c1 => k_is)
    (case k1 => k_is)
    (case a2 => k_is)
    (case l2 => k_is)
    (case c2 => k_is)
    (case k2 => k_is)
    (case a3 => k_is)
    (case l3 => k_is)
    (case c3 => k_is)
    (case k3 => k_is)
    (case a4 => k_is)
    (case l4 => k_is)
    (case c4 => k_is)
    (case k4 => k_is)
    (case a5 => k_is)
    (case l5 => k_is)
    (case c5 => k_is)
    (case k5 => k_is)
    (case a6 => k_is)
    (case l6 => k_is)
    (case c6 => k_is)
    (case k6 => k_is)
    (case a7 => k_is)
    (case l7 => k_is)
    (case c7 => k_is)
    (case k7 => k_is)
    (case a8 => k_is)
    (case l8 => k_is)
    (case c8 => k_is)
    (case k8 => k_is)
    (case a9 => k_is)
    (case l9 => k_is)
    (case c9 => k_is)
    (case k9 => k_is)
    (case a10 => k_is)
    (case l10 => k_is)
    (case c10 => k_is)
    (case k10 => k_is)
    (case a11 => k_is)
    (case l11 => k_is)
    (case c11 => k_is)
    (case k11 => k_is)
    (case a12 => k_is)
    (case l12 => k_is)
    (case c12 => k_is)
    (case k12 => k_is)
    (case aCShelves => k_is)
    (case pgShelves => k_is)
    (case hdShelves => k_is)
    (case poShelves => k_is)
    (case saShelves => k_is)
    (case mkShelves => k_is)
    (case kcShelves => k_is)
    (case nShelves_outward => k_is)
    (case nShelves_places => k_is)
    (case nShelves_scene => k_is)
    (case nShelves_shelves => k_is)
    (case a13 => k_is)
    (case i13 => k_is)
    (case l13 => k_is)
    (case c13 => k_is)
    (case k13 => k_is)
    (case a14 => k_is)
    (case i14 => k_is)
    (case l14 => k_is)
    (case c14 => k_is)
    (case k14 => k_is)
    (case a15 => k_is)
    (case i15 => k_is)
    (case l15 => k_is)
    (case c15 => k_is)
    (case k15 => k_is)
    (case a16 => k_is)
    (case i16 => k_is)
    (case l16 => k_is)
    (case c16 => k_is)
    (case k16 => k_is)
    (case a17 => k_is)
    (case i17 => k_is)
    (case l17 => k_is)
    (case c17 => k_is)
    (case k17 => k_is)
    (case zdict => k_is)
    (case zint => k_is)
    (case zlen => k_is)
    (case zlist => k_is)
    (case zmax => k_is)
    (case zmin => k_is)
    (case zrange => k_is)
    (case zsorted => k_is)
    (case ztuple => k_is)
    (case yNAME => k_is)
    (case ySHELF => k_is)
    (case yPARTS => k_is)
