import PyProof.Rows.All
import Wide.All
import OpenK.AllK
import Wide.FinOn
import HandS.ForMost
import HandS.Flow
import HandS.Conv
import HandS.More
import HandS.Codes
import KE.DataEq
import HandS.IsInst
import PyProof.Rows.SetFrom
import HandS.Strs
import HandS.Set
import PyProof.ReprRoads
import HandS.Ends
import HandS.Words
import KE.DataIsa
import KE.KDictPairs
import HandS.Dict
import HandS.TupAny
import KE.KRevSl
import HandS.Small
import PyProof.StrLawsRepr
import PyProof.Rows.StrJoinMade
import PyProof.Rows.ReprOcc
import PySem.Challenge.RW_strokeguess_k73_machines_or_not
set_option Elab.async false
set_option maxRecDepth 100000
set_option linter.all false
/-! Strokeguess: what all our proofs share: a def's contract as one fact (Cl), frames (Fr), new objects. -/
namespace SG
open PySem PySem.Spec PyProof.Rows L2

/-! ### a def of the module, by its contract -/
structure Cl (P : Program) (w : World) (K : PySem.W.Frag) (mg : Str → Option Value) (base : Heap) (k : Nat) (x : Str) (sp : Sp) : Prop where
  ex : ∃ (f : Addr) (fd : FuncData) (ps : List Str), FnOk P w K mg base CX0 k f fd ps sp ∧ mg x = some (.ref f) ∧ PySem.W.keepIn K (.ref f) = true ∧ Binds K fd ps []
/-- a def as the top has left it -/
structure Df (K : PySem.W.Frag) (mg : Str → Option Value) (x : Str) (st : Stmt) (ps : List Str) : Prop where
  ex : ∃ (f : Addr) (fd : FuncData), Fun K x x st f fd ∧ mg x = some (.ref f) ∧ Binds K fd ps []
section
variable {P : Program} {w : World} {K : PySem.W.Frag} {mg : Str → Option Value} {base : Heap}
theorem Cl.mono {j k : Nat} {x : Str} {sp : Sp} (c : Cl P w K mg base j x sp) (h : j ≤ k) : Cl P w K mg base k x sp := by
  obtain ⟨f, fd, ps, F, m, kp, b⟩ := c.ex
  exact ⟨f, fd, ps, F.mono h, m, kp, b⟩
theorem Cl.imp {k : Nat} {x : Str} {sp sp' : Sp} (c : Cl P w K mg base k x sp) (h : ∀ vs H Q E, sp' vs H Q E → sp vs H Q E) : Cl P w K mg base k x sp' := by
  obtain ⟨f, fd, ps, F, m, kp, b⟩ := c.ex
  exact ⟨f, fd, ps, F.imp h, m, kp, b⟩
theorem Df.ok {x : Str} {st : Stmt} {N ps : List Str} {k : Nat} {sp : Sp} (D : Df K mg x st ps) (S : FnScope N ps (defScope st)) (len : ∀ vs H Q E, sp vs H Q E → vs.length = ps.length)
    (hbody : ∀ (f : Addr) (cdv : Value) (A : Around) (outer : List Env) (s : Shared) (H : Hp) (vs : List V) (Q : VK) (E : XK), Room k (A.deeper (envOfC x (defScope st) s.heap.objs.size f cdv)) → sp vs H Q E →
      ∃ t, PSs (cxOf CX0 P w K mg base N x (defScope st) f cdv A outer s H E).nox (defBody st) t ∧ t { nx := fun _ H' => Q .non H', rt := Q } (start N vs) H) : Cl P w K mg base (k + 1) x sp := by
  obtain ⟨f, fd, F, m, b⟩ := D.ex
  exact ⟨f, fd, ps, F.ok S len (fun cdv A outer s H vs Q E hr h => hbody f cdv A outer s H vs Q E hr h), m, F.kp, b⟩
/-- no call left: nothing can be asked -/
theorem Df.none {x : Str} {st : Stmt} {ps : List Str} {sp : Sp} (D : Df K mg x st ps) (no : ∀ vs H Q E, ¬ sp vs H Q E) : Cl P w K mg base 0 x sp := by
  obtain ⟨f, fd, F, m, b⟩ := D.ex
  exact ⟨f, fd, ps, ⟨fun vs H Q E h => absurd h (no vs H Q E), fun A outer s H args us vs Q E _ _ _ _ h => absurd h (no vs H Q E)⟩, m, F.kp, b⟩
end
section
variable {X : Cx} {k : Nat} {x : Str} {sp : Sp} {e : Expr} {es : List Expr} {t : TA} {p pos : Pos}
theorem pe_cl (c : Cl X.prog X.w X.K X.mg X.base k x sp) (hr : Room k X.A) (hg : Gl X x) (ha : PA X (e :: es) t)
    (hdb : (x == ("__debug__" : Str)) = false := by decide) (he : starEach (e :: es) X.env = (false, eval e X.env) :: starEach es X.env := by rfl) (hpl : (backTo pos (starEach es X.env)).any (·.1) = false := by rfl) :
    PE X (.Call (.Name x p) (e :: es) [] pos) (tCall sp [] E0 t) := by
  obtain ⟨f, fd, ps, F, hm, kp, b⟩ := c.ex
  exact pe_call F hr hg hm kp b .nil pass0 ha hdb he hpl
end
/-! ### heaps -/
/-- all but the objects of S are as they were -/
def Fr (S : List Addr) (H H' : Hp) : Prop := ∀ b o, H b = some o → b ∉ S → H' b = some o
/-- tuples never change -/
def Tp (H H' : Hp) : Prop := ∀ b xs, H b = some (.tup xs) → H' b = some (.tup xs)
theorem Fr.refl (S : List Addr) (H : Hp) : Fr S H H := fun _ _ h _ => h
theorem Fr.trans {S : List Addr} {H H1 H2 : Hp} (a : Fr S H H1) (b : Fr S H1 H2) : Fr S H H2 := fun c o h n => b c o (a c o h n) n
theorem Fr.mono {S S' : List Addr} {H H1 : Hp} (a : Fr S H H1) (h : ∀ x ∈ S, x ∈ S') : Fr S' H H1 := fun c o e n => a c o e fun m => n (h c m)
theorem Fr.new {S : List Addr} {H : Hp} {p : Addr} {o : HO} (h : H p = none) : Fr S H (upd H p o) := fun b u e _ => by
  rw [upd_ne (ne_of_none e h)]
  exact e
theorem Fr.put {S : List Addr} {H : Hp} {p : Addr} {o : HO} (h : p ∈ S) : Fr S H (upd H p o) := fun b u e n => by
  rw [upd_ne (fun z => n (by rw [z]; exact h))]
  exact e
theorem Fr.same {H H' : Hp} (h : Same H H') (S : List Addr) : Fr S H H' := fun b o e _ => h b o e
theorem Fr.nil {H H' : Hp} (h : Fr [] H H') : Same H H' := fun b o e => h b o e (by simp)
theorem Tp.refl (H : Hp) : Tp H H := fun _ _ h => h
theorem Tp.trans {H H1 H2 : Hp} (a : Tp H H1) (b : Tp H1 H2) : Tp H H2 := fun c o h => b c o (a c o h)
theorem Tp.new {H : Hp} {p : Addr} {o : HO} (h : H p = none) : Tp H (upd H p o) := fun b u e => by
  rw [upd_ne (ne_of_none e h)]
  exact e
theorem Tp.same {H H' : Hp} (h : Same H H') : Tp H H' := fun b _ e => h b _ e
theorem same_new {H : Hp} {p : Addr} {o : HO} (h : H p = none) : Same H (upd H p o) := fun b u e => by
  rw [upd_ne (ne_of_none e h)]
  exact e
/-- a new object, told by what is known of it -/
theorem alloc {H : Hp} {o : HO} {Q : Addr → Hp → Prop} (k : ∀ p H', H p = none → H' p = some o → Same H H' → (∀ q, q ≠ p → H' q = H q) → Q p H') : ∀ p, H p = none → Q p (upd H p o) :=
  fun p hp => k p _ hp upd_same (same_new hp) fun _ h => upd_ne h
theorem Same.tup {K : PySem.W.Frag} {H H' : Hp} {a : Addr} {xs : List V} (e : Same H H') (h : SqT K H a xs) : SqT K H' a xs := by
  rcases h with (h | ⟨o, h⟩) | h
  · exact .inl (.inl (e _ _ h))
  · exact .inl (.inr ⟨o, e _ _ h⟩)
  · exact .inr h
end SG
namespace SG
open PySem PySem.Spec PyProof.Rows L2
section
variable {X : Cx}
/-- == and != of data without dicts, any texts -/
def rEqP (K : PySem.W.Frag) : R2 := fun x y H Q => ∃ d e, Dp K H x d ∧ Dp K H y e ∧ PyData.plain d = true ∧ PyData.plain e = true ∧ min d.depth e.depth ≤ 64 ∧ Q (.bl (PyData.eqv d e)) H
def rNeP (K : PySem.W.Frag) : R2 := fun x y H Q => ∃ d e, Dp K H x d ∧ Dp K H y e ∧ PyData.plain d = true ∧ PyData.plain e = true ∧ min d.depth e.depth ≤ 64 ∧ Q (.bl (!PyData.eqv d e)) H
theorem op_eqP (hu : X.A.units + 64 < cLine) : OpR X (compareOp .Eq) (rEqP X.K) := by
  intro pins s σ H x y v u Q I rx ry h
  obtain ⟨d, e, hd, he, sd, se, hm, q⟩ := h
  obtain ⟨as, r1⟩ := Dp.reads I d x v hd rx
  obtain ⟨bs, r2⟩ := Dp.reads I e y u he ry
  exact SeqAt.eq_plain r1 r2 sd se (by omega) ⟨.bl _, H, I, rfl, q⟩
theorem op_neP (hu : X.A.units + 64 < cLine) : OpR X (compareOp .NotEq) (rNeP X.K) := by
  intro pins s σ H x y v u Q I rx ry h
  obtain ⟨d, e, hd, he, sd, se, hm, q⟩ := h
  obtain ⟨as, r1⟩ := Dp.reads I d x v hd rx
  obtain ⟨bs, r2⟩ := Dp.reads I e y u he ry
  exact SeqAt.ne_plain r1 r2 sd se (by omega) ⟨.bl _, H, I, rfl, q⟩
end
/-! ### powers of any base -/
def CPowG (i j : Int) : Prop := 0 ≤ j ∧ (Builtin.Int.intBits i : Int) * j ≤ 2 ^ 27
theorem op_powG {X : Cx} : OpR X (binaryOp .Pow) (rI CPowG fun i j => .int (i ^ j.toNat)) := opI fun _ _ _ _ _ _ _ hc q => pow_int hc.1 hc.2 q
/-! ### data made of tuples alone: it never changes -/
mutual
inductive Im (H : Hp) : V → PyData → Prop
  | non : Im H .non .none
  | bl (b : Bool) : Im H (.bl b) (.bool b)
  | int (i : Int) : Im H (.int i) (.int i)
  | str (x : Str) : Im H (.str x) (.str x)
  | tup {a : Addr} {xs : List V} {ds : List PyData} : H a = some (.tup xs) → ImAll H xs ds → Im H (.ref a) (.tuple ds)
inductive ImAll (H : Hp) : List V → List PyData → Prop
  | nil : ImAll H [] []
  | cons {v : V} {vs : List V} {d : PyData} {ds : List PyData} : Im H v d → ImAll H vs ds → ImAll H (v :: vs) (d :: ds)
end
mutual
theorem Im.dp {K : PySem.W.Frag} {H : Hp} : ∀ {d : PyData} {v : V}, Im H v d → Dp K H v d
  | .none, _, h => by cases h; exact .non
  | .bool _, _, h => by cases h; exact .bl _
  | .int _, _, h => by cases h; exact .int _
  | .str _, _, h => by cases h; exact .str _
  | .tuple _, _, h => by
    cases h with
    | tup a b => exact .tup (SqT.of a) (ImAll.dp b)
  | .list _, _, h => by cases h
  | .dict _, _, h => by cases h
theorem ImAll.dp {K : PySem.W.Frag} {H : Hp} : ∀ {ds : List PyData} {vs : List V}, ImAll H vs ds → DpAll K H vs ds
  | [], _, h => by cases h; exact .nil
  | _ :: _, _, h => by
    cases h with
    | cons a b => exact .cons (Im.dp a) (ImAll.dp b)
end
mutual
theorem Im.tp {H H' : Hp} (t : Tp H H') : ∀ {d : PyData} {v : V}, Im H v d → Im H' v d
  | .none, _, h => by cases h; exact .non
  | .bool _, _, h => by cases h; exact .bl _
  | .int _, _, h => by cases h; exact .int _
  | .str _, _, h => by cases h; exact .str _
  | .tuple _, _, h => by
    cases h with
    | tup a b => exact .tup (t _ _ a) (ImAll.tp t b)
  | .list _, _, h => by cases h
  | .dict _, _, h => by cases h
theorem ImAll.tp {H H' : Hp} (t : Tp H H') : ∀ {ds : List PyData} {vs : List V}, ImAll H vs ds → ImAll H' vs ds
  | [], _, h => by cases h; exact .nil
  | _ :: _, _, h => by
    cases h with
    | cons a b => exact .cons (Im.tp t a) (ImAll.tp t b)
end
theorem Im.plain {H : Hp} : ∀ {d : PyData} {v : V}, Im H v d → d.plain = true := by
  intro d v h
  induction h using Im.rec (motive_2 := fun vs ds _ => PyData.plainAll ds = true) with
  | non => rfl
  | bl => rfl
  | int => rfl
  | str => rfl
  | tup _ _ ih => exact ih
  | nil => rfl
  | cons _ _ a b =>
    show (PyData.plain _ && PyData.plainAll _) = true
    rw [a, b]; rfl
end SG
namespace SG
open PySem PySem.Spec PyProof.Rows L2
theorem upd_is {H H' : Hp} {p : Addr} {o : HO} (e : upd H p o = H') : H' p = some o := by
  rw [← e]
  exact upd_same
theorem same_is {H H' : Hp} {p : Addr} {o : HO} (e : upd H p o = H') (h : H p = none) : Same H H' := by
  rw [← e]
  exact same_new h
end SG
namespace SG
open PySem PySem.Spec PyProof.Rows L2
section
variable {X : Cx}
/-- != of any list and an empty one -/
def rNeNil (K : PySem.W.Frag) : R2 := fun x y H Q => ∃ (a b : Addr) (xs : List V), x = .ref a ∧ y = .ref b ∧ SqL K H a xs ∧ SqL K H b [] ∧ Q (.bl (!xs.isEmpty)) H
theorem op_neNil (hu : X.A.units + 64 < cLine) : OpR X (compareOp .NotEq) (rNeNil X.K) := by
  intro pins s σ H x y v u Q I rx ry h
  obtain ⟨a, b, xs, rfl, rfl, ha, hb, q⟩ := h
  cases (show v = Value.ref a from rx)
  cases (show u = Value.ref b from ry)
  obtain ⟨us, r1, p1, _⟩ := I.list ha
  obtain ⟨ws, r2, p2, _⟩ := I.list hb
  have e2 : ws = [] := by cases r2; rfl
  subst e2
  have hu' : X.A.units < cLine := by omega
  cases xs with
  | nil =>
    have e1 : us = [] := by cases r1; rfl
    subst e1
    have z := SeqAt.RcNeAt.lists (A := X.A) (s := s) (e := fun _ => true) p1.isList p2.isList rfl hu' (fun j j1 _ => absurd j1 (Nat.not_lt_zero j))
    exact z X.prog X.w _ _ ⟨.bl false, H, I, rfl, q⟩
  | cons x r =>
    have hsz : ¬ us.toArray.size = ([] : List Value).toArray.size := by
      cases r1 with
      | cons => simp
    have z := SeqAt.RcNeAt.lists_lengths (A := X.A) (s := s) p1.isList p2.isList (by simpa using hsz) hu'
    exact z X.prog X.w _ _ ⟨.bl true, H, I, rfl, q⟩
end
end SG
namespace SG
open PySem PySem.Spec PyProof.Rows L2
/-! ### sets of texts: how many -/
/-- the first i of xs, each once -/
def seen (xs : List Str) (i : Nat) : List Str := (xs.take i).foldl step_dedup []
theorem seen_succ {xs : List Str} {i : Nat} {x : Str} (h : xs[i]? = some x) : seen xs (i + 1) = step_dedup (seen xs i) x := by
  obtain ⟨hi, e⟩ := List.getElem?_eq_some_iff.mp h
  unfold seen
  rw [List.take_succ_eq_append_getElem hi, List.foldl_append, e]
  rfl
theorem dedup_any (σ : List Str) (v k : Str) : (step_dedup σ v).any (· == k) = (σ.any (· == k) || decide (k = v)) := by
  unfold step_dedup
  by_cases hv : σ.any (· == v) = true
  · rw [if_pos hv]
    by_cases e : k = v
    · subst e; simp [hv]
    · simp [e]
  · rw [if_neg hv, List.any_append]
    by_cases e : k = v
    · subst e; simp
    · simp [e, Ne.symm e]
theorem dedup_len (σ : List Str) (v : Str) : (step_dedup σ v).length = if σ.any (· == v) = true then σ.length else σ.length + 1 := by
  unfold step_dedup
  split <;> simp
theorem seen_le (xs : List Str) (i : Nat) : (seen xs i).length ≤ i := Nat.le_trans (foldl_step_dedup_nil_length_le _) (by rw [List.length_take]; omega)
section
variable {prog : Program} {w : World} {A : Around}
/-- the walk of set.update over texts: after i of them the set is that of the first i -/
theorem strs_into {R : Result → Shared → Prop} {I : Addr} {fp wr : List Addr} {G : Array GenState → Array GenState → Prop} {n : Nat} {P : Nat → Value → Prop} {St : Nat → Shared → Prop}
    (W : WalksS prog w A.in1 I fp wr G n P St) (S : Addr) (out : S ∉ fp) (xs : List Str) (hn : xs.length = n) (few : n + 1 < scanBound) (val : ∀ (i : Nat) (v : Value), P i v → ∃ x t, xs[i]? = some x ∧ v = Value.str x t) :
    ∀ (left i : Nat) (s : Shared), i + left = n → St i s → s.heap.SetOf (PySem.strKind prog w) S (fun k => (seen xs i).any (· == k)) (seen xs i).length →
      (∀ s2, Moved (S :: wr) G s s2 → s2.heap.SetOf (PySem.strKind prog w) S (fun k => (seen xs n).any (· == k)) (seen xs n).length → R (.ok (.ret .none)) s2) →
      codeAny (model prog w) A (.builtin "set.update.loop" ⟨[.ref S, .ref I], []⟩) R s
  | 0, i, s, e, st, hS, fin => by
    obtain rfl : i = n := by omega
    refine codeAny_builtin PyProof.Rows.F.entry_set_update_loop ?_
    rw [Around.under_plainId PyProof.Rows.F.plain_set_update_loop _]
    refine wpAny_bind (W.done s _ _ st fun s2 mv => wpAny_pure (fin s2 (mv.mono fun b hb => List.mem_cons_of_mem _ hb) ?_))
    obtain ⟨o, es, ep, tb, ho, more⟩ := hS
    exact ⟨o, es, ep, tb, mv.heap S _ (fun z => out (W.sub _ z)) ho, more⟩
  | left + 1, i, s, e, st, hS, fin => by
    refine codeAny_builtin PyProof.Rows.F.entry_set_update_loop ?_
    rw [Around.under_plainId PyProof.Rows.F.plain_set_update_loop _]
    refine wpAny_bind (W.item i s _ _ (by omega) st fun v s2 hv st2 mv => ?_)
    obtain ⟨x, t, hx, rfl⟩ := val i v hv
    have hS2 : s2.heap.SetOf (PySem.strKind prog w) S (fun k => (seen xs i).any (· == k)) (seen xs i).length := by
      obtain ⟨o, es, ep, tb, ho, more⟩ := hS
      exact ⟨o, es, ep, tb, mv.heap S _ (fun z => out (W.sub _ z)) ho, more⟩
    refine wpAny_bind (wpAny_holding ?_)
    unfold setAdd
    refine wpAny_holding (wpAny_bind ((PySem.strKind prog w).pyHash (k := x) (strKind_is _ _ _ _) ?_))
    have room := seen_le xs i
    refine wpAny_setAddHashed_of (knd := PySem.strKind prog w) (s := { s2 with toks := s2.toks + 1 }) (strKind_is _ _ _ _) rfl hS2 (by omega) fun h3 but hS3 => ?_
    have hS4 : h3.SetOf (PySem.strKind prog w) S (fun k => (seen xs (i + 1)).any (· == k)) (seen xs (i + 1)).length :=
      PyProof.Rows.SetOf_congr hS3 (fun k => by rw [seen_succ hx, dedup_any]) (by rw [seen_succ hx, dedup_len])
    refine wpAny_pure ⟨plainId_quiet PyProof.Rows.F.plain_set_update_loop _, strs_into W S out xs hn few val left (i + 1) _ (by omega) (W.frame _ s2 _ _ st2 (Nat.le_succ _) fun b hb o q => ?_) hS4 fun s5 mv5 hS5 => fin s5 (Moved.trans W.gtrans ((mv.mono fun b hb => List.mem_cons_of_mem _ hb).then_heap (Nat.le_succ _) fun b o hb q => ?_) mv5) hS5⟩
    · rw [but.2 b (fun z : b = S => out (by rw [← z]; exact hb))]
      exact q
    · rw [but.2 b (fun z : b = S => hb (by rw [z]; exact List.mem_cons_self))]
      exact q
set_option maxHeartbeats 3200000 in
/-- set(xs), xs a list of texts -/
theorem set_of_strs {E : Value → Shared → Prop} {s : Shared} {l : Addr} {items : Array Value} {xs : List Str} {Q : Value → Shared → Prop} (calm : A.handled = none) (hl : s.heap.IsList l items) (hi : PyProof.Rows.StrsAre items.toList xs) (few : xs.length + 1 < scanBound)
    (k : ∀ (h2 : Heap) (tk : Nat), h2.SetOf (PySem.strKind prog w) s.heap.objs.size (fun j => (seen xs xs.length).any (· == j)) (seen xs xs.length).length →
      (∀ b o, b < s.heap.objs.size → s.heap.get? b = some o → h2.get? b = some o) → Q (.ref s.heap.objs.size) { s with heap := h2, toks := tk }) : wpAny (model prog w) A (call (.type "set") [.ref l]) Q E s := by
  have nx : xs.length = items.size := by rw [← StrsAre.len_eq hi, Array.length_toList]
  obtain ⟨_, _, hmro⟩ := PySem.F.called_set.mro
  have hmade := PySem.F.called_set.made; have hsub := PySem.F.called_set.sub
  refine wpAny_call (codeAny_of_tree (show wpAny _ _ (callAny (.type "set") _) _ _ _ from wpAny_pure ⟨Code.quiet_builtin _ (by decide +kernel), codeAny_builtin PySem.F.entry_type_call ?_⟩))
  rw [Around.under_plain (weight_type_call_type "set" [.ref l] []) rfl]
  have h1 := PySem.F.called_set.notType; have h2 := PySem.F.called_set.canCreate; have h3 := PySem.F.typeCall_set_1 (.ref l)
  repeat (any_goals (first | assumption | wp_step))
  refine codeAny_mono (code_set_new_1 (.ref l) (E := E) (Q₁ := fun ob s2 => ∃ led : Bool, ob = .ref s.heap.objs.size ∧ s2 = { s with heap := s.heap.push { cls := .type "set", dict := none, data := .set #[] 0 (.fresh 0 0 led) } }) fun led => ⟨led, rfl, rfl⟩) fun r s2 hr => ?_
  match r, hr with
  | .error e, hr => exact hr
  | .ok .next, hr => exact hr.elim
  | .ok .brk, hr => exact hr.elim
  | .ok .cont, hr => exact hr.elim
  | .ok (.ret ob), ⟨led, e1, e2⟩ =>
  subst e1; subst e2
  have hS : (s.heap.push { cls := .type "set", dict := none, data := .set #[] 0 (.fresh 0 0 led) }).get? s.heap.objs.size = some { cls := .type "set", dict := none, data := .set #[] 0 (.fresh 0 0 led) } := Heap.get?_push_size _ rfl
  have hT : Shared.TypeIs { s with heap := s.heap.push { cls := .type "set", dict := none, data := .set #[] 0 (.fresh 0 0 led) } } (.ref s.heap.objs.size) "set" := ⟨_, hS, rfl⟩
  have h4 := PySem.F.called_set.init.lookup; have h5 := PySem.F.called_set.init.bind (.ref s.heap.objs.size)
  repeat (any_goals (first | assumption | wp_step))
  refine codeAny_mono (codeAny_call_builtin (R := wants (fun r s3 => r = .none ∧ ∃ h2 tk, s3 = { s with heap := h2, toks := tk } ∧ h2.SetOf (PySem.strKind prog w) s.heap.objs.size (fun j => (seen xs xs.length).any (· == j)) (seen xs xs.length).length ∧
    (∀ b o, b < s.heap.objs.size → s.heap.get? b = some o → h2.get? b = some o)) E) PySem.F.called_set.init.plain PySem.F.entry_set_init (check_set_init_1 hT ?_)) fun r s3 hr => ?_
  · obtain ⟨⟨ocls, odict, odata, oslots⟩, hol, hcl, nl, hdl⟩ := hl
    simp only at hcl hdl
    subst hcl; subst hdl
    have hol2 : (s.heap.push { cls := .type "set", dict := none, data := .set #[] 0 (.fresh 0 0 led) }).get? l = some { cls := .type "list", dict := odict, data := .seq items nl, slots := oslots } := Heap.get?_push_of_some _ hol
    have a1 := PySem.F.sub_list_set; have a2 := PySem.F.sub_list_frozenset; have a3 : (Value.type "list" == Value.type "dict") = false := by decide
    have hl2 : (s.heap.push { cls := .type "set", dict := none, data := .set #[] 0 (.fresh 0 0 led) }).IsList l items := ⟨_, hol2, rfl, nl, rfl⟩
    unfold Builtin.«set.__init__» noKeywords Builtin.Frozenset.updateFrom
    generalize hPI : pyIter = PI
    wp_walk
    subst hPI
    refine wpAny_pyIter_list hl2 (wpAny_bind (wpAny_runValue ?_))
    have lS : l < s.heap.objs.size := Heap.lt_size hol
    have calm3 : A.in1.in1.in1.handled = none := by simp [calm]
    have ne1 : l ≠ (s.heap.push { cls := .type "set", dict := none, data := .set #[] 0 (.fresh 0 0 led) }).objs.size := by
      rw [Heap.size_push]; exact Nat.ne_of_lt (Nat.lt_succ_of_lt lS)
    have ne2 : s.heap.objs.size ∉ [(s.heap.push { cls := .type "set", dict := none, data := .set #[] 0 (.fresh 0 0 led) }).objs.size, l] := by
      rw [Heap.size_push]
      simp only [List.mem_cons, List.not_mem_nil, or_false, not_or]
      exact ⟨Nat.ne_of_lt (Nat.lt_succ_self _), Nat.ne_of_gt lS⟩
    refine strs_into ((Walks.list calm3 _ l ne1 items).toS) s.heap.objs.size ne2 xs nx (by omega) (fun i v hv => ?_) items.size 0 _ (by omega) ⟨⟨_, Heap.get?_push_size _ rfl, rfl, rfl⟩, (hl2.push _)⟩ ?first ?last
    · have hv' : items[i]? = some v := hv
      obtain ⟨t, e⟩ := SS.strs_at hi i v (by rw [Array.getElem?_toList]; exact hv')
      have il : i < xs.length := by rw [nx]; exact (Array.getElem?_eq_some_iff.mp hv').1
      exact ⟨xs[i], t, List.getElem?_eq_getElem il, by rw [e]; simp [List.getD, List.getElem?_eq_getElem il]⟩
    case first =>
      have g : ((s.heap.push { cls := .type "set", dict := none, data := .set #[] 0 (.fresh 0 0 led) }).push { cls := .type "list_iterator", data := .fields #[.ref l, .int 0 0] }).get? s.heap.objs.size = some { cls := .type "set", dict := none, data := .set #[] 0 (.fresh 0 0 led) } := Heap.get?_push_of_some _ hS
      exact PyProof.Rows.SetOf_congr ((PyProof.Rows.setObjOf_fresh (knd := PySem.strKind prog w) led).setOf g (by unfold scanBound; omega)) (fun _ => rfl) rfl
    case last =>
      intro s4 mv hS4
      obtain ⟨h6, g6, d6, tk6, os6⟩ := s4
      obtain rfl : g6 = s.gens := mv.gens
      obtain rfl : d6 = s.drawn := mv.drawn
      obtain rfl : os6 = s.os := mv.os
      refine wpAny_pure (show wpAny _ _ (ret Value.none) _ _ _ from wpAny_pure ⟨rfl, h6, tk6, rfl, by rw [nx]; exact hS4, fun b o hb q => ?_⟩)
      refine mv.heap b o ?_ (Heap.get?_push_of_some _ (Heap.get?_push_of_some _ q))
      rw [Heap.size_push]
      simp only [List.mem_cons, List.not_mem_nil, or_false, not_or]
      exact ⟨Nat.ne_of_lt hb, Nat.ne_of_lt (Nat.lt_succ_of_lt hb)⟩
  · match r, hr with
    | .error e, hr => exact hr
    | .ok .next, hr => exact hr.elim
    | .ok .brk, hr => exact hr.elim
    | .ok .cont, hr => exact hr.elim
    | .ok (.ret r), ⟨e1, h6, tk6, e2, hS6, hk6⟩ =>
    subst e1; subst e2
    repeat (any_goals (first | assumption | wp_step))
    exact k _ _ hS6 hk6
end
section
variable {X : Cx}
/-- len(set(xs)), xs a list of texts -/
def tLenSetT (K : PySem.W.Frag) (ta : TE) : TE := fun σ H Q => ta σ H fun x H1 => ∃ (l : Addr) (xs : List Str), x = .ref l ∧ SqL K H1 l (xs.map V.str) ∧ xs.length ≤ 4000 ∧ Q (.int ((seen xs xs.length).length : Nat)) H1
theorem pe_lenSetT {a : Expr} {ta : TE} {p p2 q pos : Pos} (calm : X.calm = true) (g1 : Gl X "len") (m1 : X.mg "len" = none) (g2 : Gl X "set") (m2 : X.mg "set" = none) (ha : PE X a ta)
    (na : starEach [a] X.env = (false, eval a X.env) :: starEach [] X.env := by rfl) : PE X (.Call (.Name "len" p) [.Call (.Name "set" p2) [a] [] q] [] pos) (tLenSetT X.K ta) := by
  refine ⟨fun pins s σ H Q I h => Call_ (ld_blt I g1 m1 boot_len (PyProof.Rows.callWith_builtin1 (PyProof.Rows.args_cons ?_ rfl) rfl rfl))⟩
  refine Call_ (ld_blt I g2 m2 boot_set (PyProof.Rows.callWith_type1 (PyProof.Rows.args_cons (thn (ha.run pins s σ H _ I h) fun v s1 ⟨x, H1, I1, r1, l, xs, ex, hq, few, q1⟩ => PyProof.Rows.args_nil ?_) na) na rfl))
  subst ex
  cases r1
  obtain ⟨its, r, pl, _⟩ := I1.list hq
  have lx : its.length = xs.length := by rw [← r.length, List.length_map]
  refine set_of_strs (I1.ok.hd calm) pl.isList (by simpa using strsAre_of r) (by unfold scanBound; omega) fun h2 tk hS hk => PyProof.Rows.args_nil ?_
  obtain ⟨o, es, ep, t, ho, hex, hd, _, _, _, hf, hn⟩ := hS
  have I2 : Inv X pins σ H1 { s1 with heap := h2, toks := tk } := I1.kept fun b o e => hk b o (Heap.lt_size e) e
  have bd := seen_le xs xs.length
  exact call_len_set ho hex hd hf (by rw [hn]; omega) ⟨.int _, H1, I2.tok _, ⟨_, by rw [hn]⟩, q1⟩
end
end SG
/-! functions that are called while nothing is being shown: repr of data can be called in them -/
namespace SG
open PySem PySem.Spec PyProof.Rows L2
/-- FnOk, where no repr is under way -/
structure FnG (P : Program) (w : World) (K : PySem.W.Frag) (mg : Str → Option Value) (base : Heap) (k : Nat) (f : Addr) (fd : FuncData) (ps : List Str) (sp : Sp) : Prop where
  cnt : ∀ vs H Q E, sp vs H Q E → vs.length = ps.length
  go : ∀ (A : Around) (up : List Env) (s : Shared) (H : Hp) (ar : Args) (us : List Value) (vs : List V) (Q : VK) (E : XK),
    Room k A → A.guards = some [] → Env0 P w K mg base A up s H → BindsTo s fd ar (ps.zip us) → Vals vs us → sp vs H Q E →
    codeAny (model P w) A (.call (.ref f) ar) (CR CX0 up P w H s Q E) s
structure ClG (P : Program) (w : World) (K : PySem.W.Frag) (mg : Str → Option Value) (base : Heap) (k : Nat) (x : Str) (sp : Sp) : Prop where
  ex : ∃ (f : Addr) (fd : FuncData) (ps : List Str), FnG P w K mg base k f fd ps sp ∧ mg x = some (.ref f) ∧ PySem.W.keepIn K (.ref f) = true ∧ Binds K fd ps []
section
variable {P : Program} {w : World} {K : PySem.W.Frag} {mg : Str → Option Value} {base : Heap}
theorem ClG.mono {j k : Nat} {x : Str} {sp : Sp} (c : ClG P w K mg base j x sp) (h : j ≤ k) : ClG P w K mg base k x sp := by
  obtain ⟨f, fd, ps, F, m, kp, b⟩ := c.ex
  exact ⟨f, fd, ps, ⟨F.cnt, fun A up s H ar us vs Q E hr => F.go A up s H ar us vs Q E (hr.mono h)⟩, m, kp, b⟩
theorem fun_okG {x qual : Str} {st : Stmt} {f : Addr} {fd : FuncData} {N ps : List Str} {k : Nat} {sp : Sp} (F : Fun K x qual st f fd) (S : FnScope N ps (defScope st)) (len : ∀ vs H Q E, sp vs H Q E → vs.length = ps.length)
    (hb : ∀ (cdv : Value) (A : Around) (up : List Env) (s : Shared) (H : Hp) (vs : List V) (Q : VK) (E : XK), Room k (A.deeper (envOfC qual (defScope st) s.heap.objs.size f cdv)) → A.guards = some [] → sp vs H Q E →
      ∃ t, PSs (cxOf CX0 P w K mg base N qual (defScope st) f cdv A up s H E).nox (defBody st) t ∧ t { nx := fun _ H' => Q .non H', rt := Q } (start N vs) H) : FnG P w K mg base (k + 1) f fd ps sp := by
  obtain ⟨oc, od, kV, doc, pm, an, cdv, ct, osl, rfl, lk, hcd⟩ := F.ex
  constructor
  · exact len
  intro A up s H ar us vs Q E hr hg e0 bd rv hsp
  have inK : K.In s.heap := e0.mod.kin.keeps fun b o e => (e0.bs b o e).1
  have free : s.heap.NoLimit := e0.mod.nolimit.keeps fun b o e => (e0.bs b o e).1
  have kinds : ∀ y ∈ ps.zip us, (defScope st).names.lookup y.1 = some .local ∨
      ((defScope st).names.lookup y.1 = some .cell ∧ ((cellsFrom (s.heap.objs.size + 1) (defScope st).names []).lookup y.1).isSome = true) := by
    rintro ⟨n, v⟩ hy
    cases S.par n (List.of_mem_zip hy).1 with
    | inl q => exact Or.inl q
    | inr q => exact Or.inr ⟨q, PySem.W.cellsFrom_some _ _ _ (Or.inl q)⟩
  apply codeAny_call_function hr.depth (inK _ _ lk) rfl S.co S.gen rfl (PySem.W.codeRec_of inK hcd) (bd _ _ _ _ ?_)
  apply wpAny_newFunctionEnv_cells S.kind kinds
  intro env he s1 ic
  subst he
  refine ⟨free.keeps ic.toInCall.keep, codeAny_func ?_⟩
  obtain ⟨t, ht0, hq⟩ := hb cdv A up s H vs Q E (hr.deeper _) hg hsp
  have ht := ht0.nox
  have J0 := inv_start (CX := CX0) (E := E) S hr.hd e0 (len _ _ _ _ hsp) rv ic
  refine wpAny_mono (ht.run [] s1 (start N vs) H _ J0 hq) ?_ ?_
  · intro fl s' hs
    cases fl with
    | ret u =>
      obtain ⟨v, σ', H', J, rv', q⟩ := hs
      exact ⟨v, H', J.os, J.bare, J.base, J.hok, rv', q⟩
    | next =>
      obtain ⟨σ', H', J, q⟩ := hs
      exact ⟨V.non, H', J.os, J.bare, J.base, J.hok, rfl, q⟩
    | brk => obtain ⟨_, _, _, q⟩ := hs; exact q.elim
    | cont => obtain ⟨_, _, _, q⟩ := hs; exact q.elim
  · intro e s' hs
    exact hs
theorem Df.okG {x : Str} {st : Stmt} {N ps : List Str} {k : Nat} {sp : Sp} (D : Df K mg x st ps) (S : FnScope N ps (defScope st)) (len : ∀ vs H Q E, sp vs H Q E → vs.length = ps.length)
    (hb : ∀ (f : Addr) (cdv : Value) (A : Around) (up : List Env) (s : Shared) (H : Hp) (vs : List V) (Q : VK) (E : XK), Room k (A.deeper (envOfC x (defScope st) s.heap.objs.size f cdv)) → A.guards = some [] → sp vs H Q E →
      ∃ t, PSs (cxOf CX0 P w K mg base N x (defScope st) f cdv A up s H E).nox (defBody st) t ∧ t { nx := fun _ H' => Q .non H', rt := Q } (start N vs) H) : ClG P w K mg base (k + 1) x sp := by
  obtain ⟨f, fd, F, m, b⟩ := D.ex
  exact ⟨f, fd, ps, fun_okG F S len (fun cdv A up s H vs Q E hr hg h => hb f cdv A up s H vs Q E hr hg h), m, F.kp, b⟩
end
theorem guards_in {A : Around} {q : Str} {sc : Scope} {n : Addr} {f : Addr} {c : Value} (h : A.guards = some []) : (A.deeper (envOfC q sc n f c)).guards = some [] := by
  simpa [Around.deeper] using h
section
variable {X : Cx} {k : Nat} {x : Str} {sp : Sp} {e : Expr} {es : List Expr} {t : TA} {p pos : Pos}
theorem pe_clG (c : ClG X.prog X.w X.K X.mg X.base k x sp) (hr : Room k X.A) (hg : X.A.guards = some []) (gl : Gl X x) (ha : PA X (e :: es) t)
    (hdb : (x == ("__debug__" : Str)) = false := by decide) (he : starEach (e :: es) X.env = (false, eval e X.env) :: starEach es X.env := by rfl) (hpl : (backTo pos (starEach es X.env)).any (·.1) = false := by rfl) :
    PE X (.Call (.Name x p) (e :: es) [] pos) (tCall sp [] E0 t) := by
  obtain ⟨f, fd, ps, F, hm, kp, b⟩ := c.ex
  constructor
  intro pins s σ H Q I h
  apply wpAny_Call_Name_kw (ld_glob I gl hm ?_ hdb)
  apply PySem.W.callWith_K (h₀ := X.base) I.ok.mod.kin kp (thn (ha.run pos pins s σ H _ I h) ?_) he hpl
  rintro us s1 ⟨vs, H1, J, rv, q⟩
  refine ⟨J.kIn, ?_⟩
  have q' : sp (vs ++ []) H1 Q E0 := q
  rw [List.append_nil] at q'
  have cnt : us.length = ps.length := by rw [← rv.length]; exact F.cnt _ _ _ _ q'
  have bd := b s1 us J.kIn (by rw [List.append_nil]; exact cnt)
  rw [List.append_nil] at bd
  refine wpAny_call (codeAny_mono (F.go X.A X.stack s1 H1 ⟨us, []⟩ us vs Q E0 hr hg J.env0 bd rv q') ?_)
  rintro (er | fl) s' hq
  · exact False.elim hq
  · cases fl with
    | ret u => exact J.after hq
    | next => exact hq.elim
    | brk => exact hq.elim
    | cont => exact hq.elim
end
/-- the law's own call, nothing being shown around it -/
theorem law_callG {P : Program} {w : World} {K : PySem.W.Frag} {mg mb : Str → Option Value} {k : Nat} {fa a : Addr} {fd : FuncData} {x : Str} {sp : Sp} {s : Shared} {vs : List Value} {ns : List Int}
    (KX : K.In s.heap) (hns : s.heap.Ns mainGlobals mg) (hb : s.heap.Ns builtinsNs mb) (hbb : ∀ x : Str, x ≠ "__name__" → mb x = bootBuiltins x) (hlim : s.heap.NoLimit) (hg : s.gens = #[])
    (ha : s.heap.get? a = some { cls := .type "list", data := .seq vs.toArray }) (hi : IntsAre vs ns) (hl : ns.length ≤ sizeLine) (hr : Room k callerA)
    (F : ∀ base : Heap, K.In base → base.Ns mainGlobals mg → FnG P w K mg base k fa fd [x] sp) (bd : ∀ (s : Shared) (u : Value), BindsTo s fd ⟨[u], []⟩ [(x, u)])
    (ask : ∀ H : Hp, Only H → SqL K H a (ns.map V.int) → sp [.ref a] H (fun v _ => v = .bl true) fun _ _ _ => False) :
    codeAny (model P w) callerA (.call (.ref fa) ⟨[.ref a], []⟩) (fun r s' => r = .ok (.ret (.bool true)) ∧ OldK s.heap s'.heap ∧ s'.os = s.os ∧ AllBare s'.gens) s := by
  have vals := vals_ints hi
  have many := hi.length
  have main : ∀ H : Hp, Only H → SqL K H a (ns.map V.int) → HOk P w H s.heap → (∀ b, H b ≠ none → b = a) → (H a ≠ none → K.lookup a = none) →
      codeAny (model P w) callerA (.call (.ref fa) ⟨[.ref a], []⟩) (fun r s' => r = .ok (.ret (.bool true)) ∧ OldK s.heap s'.heap ∧ s'.os = s.os ∧ AllBare s'.gens) s := by
    intro H only sq hok at_a hK
    have rest : ∀ {b : Addr} {o : Obj}, s.heap.get? b = some o → H b = none → (hidT s.heap H).get? b = some o := fun e n => hidT_get e n
    have dicts : ∀ {b : Addr} {o : Obj} {es : Array DictEntry} {ep : Nat}, s.heap.get? b = some o → o.data = .dict es ep → H b = none := by
      intro b o es ep e d
      rcases q : H b with _ | u
      · rfl
      · have e' : b = a := at_a b (by rw [q]; exact Option.some_ne_none _)
        rw [e', ha] at e
        cases e
        have d' : Data.seq vs.toArray _ = Data.dict es ep := d
        cases d'
    have spaces : ∀ {b : Addr} {m : Str → Option Value}, s.heap.Ns b m → (hidT s.heap H).Ns b m := by
      rintro b m ⟨o, es, ep, e, d, r⟩
      exact ⟨o, es, ep, rest e (dicts e d), d, r⟩
    have inB : K.In (hidT s.heap H) := by
      intro b o e
      refine rest (KX b o e) ?_
      rcases q : H b with _ | u
      · rfl
      · have nn : H b ≠ none := by rw [q]; exact Option.some_ne_none _
        have e' : b = a := at_a b nn
        rw [e'] at nn e
        rw [hK nn] at e
        cases e
    have md : Mod K mg (hidT s.heap H) := by
      obtain ⟨mc, h1, h2⟩ := hlim
      exact ⟨inB, spaces hns, ⟨mb, spaces hb, hbb⟩, mc, spaces h1, h2⟩
    have e0 : Env0 P w K mg (hidT s.heap H) callerA [] s H := by
      refine ⟨rfl, md, fun b o e => of_hidT e, Nat.le_of_eq (hidT_size _ _), trivial, ?_, hok, .of_eq hg⟩
      intro b hb
      have z : b ∈ ([] : List Addr) := hb
      cases z
    refine codeAny_mono ((F _ inB (spaces hns)).go callerA [] s H ⟨[.ref a], []⟩ [.ref a] [.ref a] _ _ hr rfl e0 (bd s (.ref a)) (.cons rfl .nil) (ask H only sq)) ?_
    rintro (e | fl) s' h
    · exact False.elim h
    · cases fl with
      | next => exact h.elim
      | brk => exact h.elim
      | cont => exact h.elim
      | ret u =>
        obtain ⟨v, H', os, bare, un, hok', r', q⟩ := h
        have q' : v = .bl true := q
        rw [q'] at r'
        obtain rfl : u = Value.bool true := r'
        refine ⟨rfl, OldK.of_keep ?_, os, bare⟩
        intro b o e
        rcases qb : H b with _ | u
        · refine un.keep b o e qb ?_ (by simp)
          intro z
          have z' : b ∈ ([] : List Addr) := z
          cases z'
        · rcases only b with z | ⟨ob, xs, z⟩
          · rw [qb] at z; cases z
          · obtain ⟨e1, _⟩ := hok b _ z
            obtain ⟨e2, _⟩ := hok' b _ (un.frzs b ob _ z)
            rw [e] at e1
            cases e1
            exact e2
  rcases hk : K.lookup a with _ | o
  · have yes : ∀ b, b = a → (fun b => if b = a then some (HO.frz { cls := .type "list", data := .seq vs.toArray } (.lst (ns.map V.int))) else none) b = some (HO.frz { cls := .type "list", data := .seq vs.toArray } (.lst (ns.map V.int))) := fun b e => if_pos e
    refine main (fun b => if b = a then some (.frz { cls := .type "list", data := .seq vs.toArray } (.lst (ns.map V.int))) else none) ?_ (.inl (.inr ⟨_, yes a rfl⟩)) ?_ ?_ fun _ => hk
    · intro b
      by_cases e : b = a
      · exact Or.inr ⟨_, _, yes b e⟩
      · exact Or.inl (if_neg e)
    · intro b u z
      by_cases e : b = a
      · rw [yes b e] at z
        cases z
        rw [e]
        exact ⟨ha, by rw [List.length_map]; exact hl, vs, _, vals, ha⟩
      · have z' := (if_neg e).symm.trans z
        cases z'
    · intro b z
      by_cases e : b = a
      · exact e
      · exact (z (if_neg e)).elim
  · have e := KX a o hk
    rw [ha] at e
    cases e
    refine main (fun _ => none) (fun _ => .inl rfl) (.inr ⟨_, vs.toArray, _, hk, rfl, rfl, rfl, by rw [List.size_toArray, many]; exact hl, by simpa using vals⟩) ?_ (fun b z => absurd rfl z) fun z => absurd rfl z
    intro b u z
    have z' : (none : Option HO) = some u := z
    cases z'
/-- the end, from the promise of the law's def -/
theorem walkG {l : PySem.W.OpenLaw} {n k : Nat} {q : Program} {loose : List Str} {XP : (Str → Option Value) → Heap → Prop} {YP : World → Heap → Prop} {d : DefRec} {K : Params → PySem.W.Frag} {sp : World → Sp} {x : Str}
    (hn : l.most = some n) (hn2 : n ≤ sizeLine) (hdf : d.params.defaults = []) (hr : Room k callerA) (hY : ∀ (w : World) (h : Heap), YP w h → (K w.params).In h)
    (F : ∀ (w : World) (mg : Str → Option Value) (fa : Addr) (h : Heap), (K w.params).In h → h.Ns mainGlobals mg → mg d.name = some (.ref fa) →
      ∃ fd : FuncData, (∀ (s : Shared) (u : Value), BindsTo s fd ⟨[u], []⟩ [(x, u)]) ∧ ∀ base : Heap, (K w.params).In base → base.Ns mainGlobals mg → FnG l.prog w (K w.params) mg base k fa fd [x] (sp w))
    (ask : ∀ (w : World) (H : Hp) (a : Addr) (ns : List Int), ns.length ≤ n → Only H → SqL (K w.params) H a (ns.map V.int) → sp w [.ref a] H (fun v _ => v = .bl true) fun _ _ _ => False) :
    PySem.W.WalkO q loose XP YP l.row.toRowW d [] (fun f vs => PySem.call f vs) := by
  apply Att.attach_call hn hdf
  intro w s₀ s₁ mg mb fa o pm cd doc a vs ns G Y ho hd hcd hmg hobj hints hlen hg
  obtain ⟨fd, hb, hF⟩ := F w mg fa _ (hY w _ Y) G.T.g hmg
  exact law_callG (hY w _ Y) G.T.g G.T.b G.T.builtins G.T.nolimit hg hobj hints (Nat.le_trans hlen hn2) hr hF hb fun H only sq => ask w H a ns hlen only sq
mutual
theorem Dp.noDict {K : PySem.W.Frag} {H : Hp} : ∀ {d : PyData} {v : V}, Dp K H v d → d.hasDict = false
  | _, _, .non => rfl
  | _, _, .bl _ => rfl
  | _, _, .int _ => rfl
  | _, _, .str _ => rfl
  | _, _, .lst _ a => DpAll.noDict a
  | _, _, .tup _ a => DpAll.noDict a
theorem DpAll.noDict {K : PySem.W.Frag} {H : Hp} : ∀ {ds : List PyData} {vs : List V}, DpAll K H vs ds → PyData.hasDictAll ds = false
  | _, _, .nil => rfl
  | _, _, .cons h t => by simp only [PyData.hasDictAll, Dp.noDict h, DpAll.noDict t, Bool.or_self]
end
section
variable {X : Cx}
def rRepr (K : PySem.W.Frag) : List V → Hp → VK → Prop := fun xs H Q => ∃ x d, xs = [x] ∧ Dp K H x d ∧ d.showable = true ∧ d.shown.length ≤ sizeLine ∧ d.depth ≤ 200 ∧ Q (.str d.shown) H
theorem call_reprD (hg : X.A.guards = some []) (hu : X.A.units + 220 < cLine) : CallR X (.builtin "repr") (rRepr X.K) := by
  intro pins s σ H xs us Q I r h
  obtain ⟨x, d, rfl, D, hs, hz, dd, q⟩ := h
  obtain ⟨u, rfl, rv⟩ := vals1 r
  have nd := Dp.noDict D
  cases D with
  | non => obtain rfl : u = Value.none := rv
           exact PySem.P.repr_of_none ⟨.str _, H, I.tok _, ⟨_, rfl⟩, q⟩
  | bl b => obtain rfl : u = Value.bool b := rv
            exact PySem.P.repr_of_bool ⟨.str _, H, I.tok _, ⟨_, rfl⟩, q⟩
  | int i => obtain ⟨t, rfl⟩ := rv
             exact PySem.P.repr_of_int (by simpa [PyData.showable] using hs) ⟨.str _, H, I.tok _, ⟨_, rfl⟩, q⟩
  | str z => obtain ⟨t, rfl⟩ := rv
             exact PySem.P.repr_of_str ⟨.str _, H, I.tok _, ⟨_, rfl⟩, q⟩ hz
  | lst sq al =>
    obtain ⟨as, rd⟩ := Dp.reads I _ _ _ (.lst sq al) rv
    obtain rfl := rv
    refine repr_of_reads' rd hs (fun z => by rw [nd] at z; cases z) hg (by omega) (fun _ _ e => e) ?_ hz
    intro h' u tk hk
    exact ⟨.str _, H, I.kept hk, ⟨_, rfl⟩, q⟩
  | tup sq al =>
    obtain ⟨as, rd⟩ := Dp.reads I _ _ _ (.tup sq al) rv
    obtain rfl := rv
    refine repr_of_reads' rd hs (fun z => by rw [nd] at z; cases z) hg (by omega) (fun _ _ e => e) ?_ hz
    intro h' u tk hk
    exact ⟨.str _, H, I.kept hk, ⟨_, rfl⟩, q⟩
end
end SG
/-! isinstance, in and not in, dict(a tuple of pairs), over data -/
namespace SG
open PySem PySem.Spec PyProof.Rows L2
section
variable {X : Cx}
/-- isinstance(x, T), x data -/
def rIsD (K : PySem.W.Frag) (T : String) (p : PyData → Bool) : List V → Hp → VK → Prop := fun xs H Q => ∃ x d, xs = [x, .ty T] ∧ Dp K H x d ∧ Q (.bl (p d)) H
theorem call_isInt : CallR X (.builtin "isinstance") (rIsD X.K "int" PyData.isInt) := by
  intro pins s σ H xs us Q I r h
  obtain ⟨x, d, rfl, D, q⟩ := h
  obtain ⟨u, c, rfl, rv, rc⟩ := vals2 r
  obtain rfl : c = Value.type "int" := rc
  obtain ⟨as, rd⟩ := Dp.reads I _ _ _ D rv
  exact PySem.W.isinstance_int_data rd fun tk _ => ⟨.bl _, H, I.tok tk, rfl, q⟩
theorem call_isBool : CallR X (.builtin "isinstance") (rIsD X.K "bool" PyData.isBool) := by
  intro pins s σ H xs us Q I r h
  obtain ⟨x, d, rfl, D, q⟩ := h
  obtain ⟨u, c, rfl, rv, rc⟩ := vals2 r
  obtain rfl : c = Value.type "bool" := rc
  obtain ⟨as, rd⟩ := Dp.reads I _ _ _ D rv
  exact PySem.W.isinstance_bool_data rd fun tk _ => ⟨.bl _, H, I.tok tk, rfl, q⟩
theorem call_isStr : CallR X (.builtin "isinstance") (rIsD X.K "str" PyData.isStr) := by
  intro pins s σ H xs us Q I r h
  obtain ⟨x, d, rfl, D, q⟩ := h
  obtain ⟨u, c, rfl, rv, rc⟩ := vals2 r
  obtain rfl : c = Value.type "str" := rc
  obtain ⟨as, rd⟩ := Dp.reads I _ _ _ D rv
  exact PySem.W.isinstance_str_data rd fun tk _ => ⟨.bl _, H, I.tok tk, rfl, q⟩
theorem call_isTup : CallR X (.builtin "isinstance") (rIsD X.K "tuple" PyData.isTuple) := by
  intro pins s σ H xs us Q I r h
  obtain ⟨x, d, rfl, D, q⟩ := h
  obtain ⟨u, c, rfl, rv, rc⟩ := vals2 r
  obtain rfl : c = Value.type "tuple" := rc
  obtain ⟨as, rd⟩ := Dp.reads I _ _ _ D rv
  exact PySem.W.isinstance_tuple_data rd fun tk _ => ⟨.bl _, H, I.tok tk, rfl, q⟩
/-- x in t, t a tuple of data -/
def rInT (K : PySem.W.Frag) (neg : Bool) : R2 := fun x y H Q => ∃ d es, Dp K H x d ∧ Dp K H y (.tuple es) ∧ d.plain = true ∧ PyData.plainAll es = true ∧ min (PyData.depthAll es) d.depth ≤ 64 ∧ Q (.bl (xor neg (es.any fun e => PyData.eqv e d))) H
theorem op_inT (hu : X.A.units + 70 < cLine) : OpR X (compareOp .In) (rInT X.K false) := by
  intro pins s σ H x y ux uy Q I rx ry h
  obtain ⟨d, es, D, T, pd, pe, de, q⟩ := h
  obtain ⟨as, r1⟩ := Dp.reads I _ _ _ D rx
  obtain ⟨bs, r2⟩ := Dp.reads I _ _ _ T ry
  rw [Bool.false_xor] at q
  exact PySem.SeqAt.in_tuple_data r2 r1 pe pd (by omega) ⟨.bl _, H, I, rfl, q⟩
theorem op_ninT (hu : X.A.units + 70 < cLine) : OpR X (compareOp .NotIn) (rInT X.K true) := by
  intro pins s σ H x y ux uy Q I rx ry h
  obtain ⟨d, es, D, T, pd, pe, de, q⟩ := h
  obtain ⟨as, r1⟩ := Dp.reads I _ _ _ D rx
  obtain ⟨bs, r2⟩ := Dp.reads I _ _ _ T ry
  rw [Bool.true_xor] at q
  exact PySem.SeqAt.notIn_tuple_data r2 r1 pe pd (by omega) ⟨.bl _, H, I, rfl, q⟩
end
end SG
/-! tuples of which it is known that they have no attributes of their own (dict(t) looks for them): the rules that make tuples, telling that -/
namespace SG
open PySem PySem.Spec PyProof.Rows L2 HT
theorem hin_of {A : Around} {k : Nat} (hr : Room k A) : A.units + 70 < cLine := by have := hr.un; omega
theorem hrep_of {A : Around} {k : Nat} (hr : Room (k + 2) A) : A.units + 220 < cLine := by have := hr.un; omega
def Tz (H : Hp) (a : Addr) (xs : List V) : Prop := ∃ o, H a = some (.frz o (.tup xs)) ∧ o.dict = none
theorem Tz.sq {K : PySem.W.Frag} {H : Hp} {a : Addr} {xs : List V} (h : Tz H a xs) : SqT K H a xs := by
  obtain ⟨o, e, _⟩ := h
  exact .inl (.inr ⟨o, e⟩)
/-- a new such tuple -/
def NewT (H : Hp) (xs : List V) (Q : VK) : Prop := ∀ (p : Addr) (o : Obj), H p = none → o.dict = none → Q (.ref p) (upd H p (.frz o (.tup xs)))
section
variable {X : Cx}
theorem put_tup {pins : List (Addr × Obj)} {σ : L2.St} {H : Hp} {s : Shared} {Q : VK} {xs : List V} {its : List Value} (I : L2.Inv X pins σ H s) (r : Vals xs its) (z : xs.length ≤ sizeLine) (q : NewT H xs Q) :
    EP X pins σ Q (.ref s.heap.objs.size) { s with heap := s.heap.push { cls := .type "tuple", data := .seq its.toArray } } := by
  have free : H s.heap.objs.size = none := I.hok.fresh (Nat.le_refl _)
  have kept : ∀ b u, s.heap.get? b = some u → (s.heap.push { cls := .type "tuple", data := .seq its.toArray }).get? b = some u := fun b u e => Heap.get?_push_of_some _ e
  have got : (s.heap.push { cls := .type "tuple", data := .seq its.toArray }).get? s.heap.objs.size = some { cls := .type "tuple", data := .seq its.toArray } := Heap.get?_push_size _ rfl
  refine ⟨.ref s.heap.objs.size, upd H s.heap.objs.size (.frz { cls := .type "tuple", data := .seq its.toArray } (.tup xs)), I.laid (t' := s.toks) kept (Nat.le_refl _) ?_, rfl, q _ _ free rfl⟩
  exact ⟨got, z, its, r, IsTup.new _ _⟩
/-- len(x), x a list or a tuple -/
def rLenSq (K : PySem.W.Frag) : List V → Hp → VK → Prop := fun xs H Q => ∃ p ys, xs = [.ref p] ∧ (SqL K H p ys ∨ SqT K H p ys) ∧ Q (.int ys.length) H
/-- (a, b, ..) -/
def tTupF (t : TA) : TE := fun σ H Q => t σ H fun xs H1 => xs.length ≤ sizeLine ∧ NewT H1 xs Q
theorem pe_tupF {es : List Expr} {t : TA} {pos : Pos} {x1} (h : PA X es t) : PE X (.Tuple es x1 pos) (tTupF t) := by
  constructor
  intro pins s σ H Q I hq
  apply wpAny_Tuple_spliced (thn (h.run pos pins s σ H _ I hq) ?_)
  rintro us s1 ⟨xs, H1, J, r, z, q⟩
  exact ⟨by rw [← r.length]; exact z, put_tup J r z q⟩
/-- tuple(x), x a list or a tuple -/
def kTupF (K : PySem.W.Frag) (x : V) (H : Hp) (Q : VK) : Prop :=
  (∃ p xs, x = .ref p ∧ SqL K H p xs ∧ NewT H xs Q) ∨ (∃ p xs, x = .ref p ∧ SqT K H p xs ∧ Q (.ref p) H)
theorem pe_tupleOfF {a : Expr} {ta : TE} {p pos : Pos} (hg : Gl X "tuple") (hm : X.mg "tuple" = none) (ha : PE X a ta) (na : starEach [a] X.env = (false, eval a X.env) :: starEach [] X.env := by rfl) :
    PE X (.Call (.Name "tuple" p) [a] [] pos) (tThen ta (kTupF X.K)) := by
  constructor
  intro pins s σ H Q I h
  refine Call_ (ld_blt I hg hm boot_tuple (PyProof.Rows.callWith_type1 (one_arg ha I h ?_ na) na))
  intro v s2 x H2 J r q
  rcases q with ⟨p, xs, rfl, hs, q⟩ | ⟨p, xs, rfl, hs, q⟩
  · obtain rfl : v = .ref p := r
    obtain ⟨its, rv, pl, hz⟩ := J.list hs
    refine call_tuple_list pl.isList ?_ (by rw [List.size_toArray, ← rv.length]; exact hz)
    intro h' hk
    exact put_tup (J.kept (t' := s2.toks) hk) rv hz q
  · obtain rfl : v = .ref p := r
    obtain ⟨its, rv, pl, hz⟩ := J.tuple hs
    exact call_tuple_tup pl ⟨.ref p, H2, J, rfl, q⟩
/-- t[lo:hi] -/
def rSlF (K : PySem.W.Frag) : V → Option Int → Option Int → Hp → VK → Prop := fun x lo hi H Q => ∃ a xs, x = .ref a ∧ SqT K H a xs ∧
  (HT.sIx xs.length 0 lo = 0 ∧ HT.sIx xs.length xs.length hi = xs.length → Q (.ref a) H) ∧ (¬ (HT.sIx xs.length 0 lo = 0 ∧ HT.sIx xs.length xs.length hi = xs.length) → NewT H (cutV xs lo hi) Q)
theorem sl_tupF : SlR X (rSlF X.K) := by
  intro pins s σ H x v vl vu lo hi sl Q I rx hs pl pu h
  obtain ⟨a, xs, rfl, hx, q1, q2⟩ := h
  obtain rfl : v = .ref a := rx
  obtain ⟨its, r, ht, hz⟩ := I.tuple hx
  have many : its.toArray.size = xs.length := by rw [List.size_toArray]; exact r.length.symm
  refine ⟨"tuple", _, PyProof.Rows.slot_tuple_getitem.lookup, ht.typeIs, ?_⟩
  by_cases hw : HT.sIx xs.length 0 lo = 0 ∧ HT.sIx xs.length xs.length hi = xs.length
  · exact getItem_tuple_whole ht hs pl pu (by rw [many]; exact hw) ⟨.ref a, H, I, rfl, q1 hw⟩
  · refine HT.getItem_tuple_cut ht hs pl pu (by rw [many]; exact hw) ?_ (by rw [many]; exact hz)
    rw [many]
    exact put_tup I ((r.drop (HT.sIx xs.length 0 lo)).take (HT.sIx xs.length xs.length hi - HT.sIx xs.length 0 lo)) (Nat.le_trans (cutV_length xs lo hi) hz) (q2 hw)
/-- t + u -/
def rCatF (K : PySem.W.Frag) : R2 := fun x y H Q => ∃ a b xs ys, x = .ref a ∧ y = .ref b ∧ SqT K H a xs ∧ SqT K H b ys ∧ xs.length + ys.length ≤ sizeLine ∧
  (xs = [] → Q (.ref b) H) ∧ (xs ≠ [] → ys = [] → Q (.ref a) H) ∧ (xs ≠ [] → ys ≠ [] → NewT H (xs ++ ys) Q)
theorem op_catF : OpR X (binaryOp .Add) (rCatF X.K) := by
  intro pins s σ H x y v u Q I rx ry h
  obtain ⟨a, b, xs, ys, rfl, rfl, ha, hb, hz, q0, q1, q2⟩ := h
  obtain rfl : v = .ref a := rx
  obtain rfl : u = .ref b := ry
  obtain ⟨its, r1, p1, _⟩ := I.tuple ha
  obtain ⟨its2, r2, p2, _⟩ := I.tuple hb
  by_cases hx : xs = []
  · subst hx
    cases r1
    exact cat_tup0 p1 p2 ⟨.ref b, H, I, rfl, q0 rfl⟩
  · refine HT.cat_tup p1 p2 (fun z => hx (r1.nil_iff.mp z)) (fun z => ⟨.ref a, H, I, rfl, q1 hx (r2.nil_iff.mp z)⟩) (fun z => ?_) (by rw [← r1.length, ← r2.length]; exact hz)
    exact put_tup I (r1.append r2) (by rw [List.length_append]; exact hz) (q2 hx fun w => z (r2.nil_iff.mpr w))
/-- t[::-1] -/
def tRevF (K : PySem.W.Frag) (te : TE) : TE := fun σ H Q => te σ H fun x H1 => ∃ a xs, x = .ref a ∧ SqT K H1 a xs ∧ NewT H1 xs.reverse Q
theorem places_back (n : Nat) : Builtin.Slice.slicePlaces ((n : Int) - 1) (-1) (-1) = n := by
  unfold Builtin.Slice.slicePlaces
  have h1 : ¬ ((-1 : Int) > 0) := by decide
  simp only [h1, if_false]
  split
  · have e : ((n : Int) - 1 - -1 - 1) / (- -1) = (n : Int) - 1 := by
      rw [show (- -1 : Int) = 1 by decide, Int.ediv_one]; omega
    rw [e]; omega
  · omega
theorem fm_congr {α β : Type} {f g : α → Option β} : ∀ {l : List α}, (∀ x ∈ l, f x = g x) → l.filterMap f = l.filterMap g
  | [], _ => rfl
  | x :: l, h => by
    rw [List.filterMap_cons, List.filterMap_cons, h x (by simp), fm_congr fun y hy => h y (by simp [hy])]
theorem pick_back (xs : Array Value) : ((List.range xs.size).filterMap fun (m : Nat) => xs[(((xs.size : Int) - 1) + (m : Int) * -1).toNat]?).toArray = xs.toList.reverse.toArray := by
  have e : ((List.range xs.size).filterMap fun (m : Nat) => xs[(((xs.size : Int) - 1) + (m : Int) * -1).toNat]?) = ((List.range xs.size).map fun k => xs.size - 1 - k).filterMap (xs[·]?) := by
    rw [List.filterMap_map]
    apply fm_congr
    intro m hm
    have := List.mem_range.mp hm
    show xs[_]? = xs[xs.size - 1 - m]?
    congr 1
    omega
  rw [e, PySem.W.krv_range, List.filterMap_reverse, PySem.W.krv_all]
theorem getItem_tuple_back {prog : Program} {w : World} {A : Around} {E : Value → Shared → Prop} {s : Shared} {t sl : Addr} {items : Array Value} {tk : Tok} {Q : Value → Shared → Prop} (ht : IsTup s.heap t items) (hs : s.heap.IsSliceOf sl .none .none (.int (-1) tk))
    (h : Q (.ref s.heap.objs.size) { s with heap := s.heap.push { cls := .type "tuple", data := .seq items.toList.reverse.toArray } })
    (hsz : items.size ≤ sizeLine) : wpAny (model prog w) A (getItem (.ref t) (.ref sl)) Q E s := by
  obtain ⟨os, hos, hcs, hds⟩ := id hs
  have hTs : s.TypeIs (.ref sl) "slice" := ⟨os, hos, hcs⟩
  unfold getItem
  try with_reducible refine wpAny_holding ?_
  first | refine wpAny_bind (wpAny_pure ?_) | skip
  apply wpAny_bind
  apply wpAny_sequenceKey ht.typeIs (by decide)
  apply wpAny_bind
  apply wpAny_callSpecial?_slot (name := Str.ofString "__getitem__") ht.typeIs PyProof.Rows.slot_tuple_getitem
  apply wpAny_call_entry PyProof.Rows.slot_tuple_getitem ht.typeIs entry_tuple_getitem ?_ (args_tuple_getitem _ _)
  show wpAny _ _ (Builtin.Tuple.tupleItemsOf (.ref t) >>= _) _ _ s
  apply wpAny_bind
  apply tupleItemsOf_ ht
  apply wpAny_bind
  apply wpAny_typeOf hTs
  rw [if_pos (by decide)]
  apply wpAny_bind
  unfold Builtin.Slice.sliceApplied Builtin.Slice.sliceFields
  refine wpAny_bind (wpAny_bind (wpAny_field hos hds (x := .none) rfl (wpAny_bind (wpAny_field hos hds (x := .none) rfl (wpAny_bind (wpAny_field hos hds (x := .int (-1) tk) rfl (wpAny_pure ?_)))))))
  refine wpAny_bind (slicePart_int ?_)
  show wpAny _ _ (if ((-1 : Int) == 0) = true then _ else _) _ _ s
  rw [if_neg (by decide)]
  refine wpAny_bind (slicePart_none (wpAny_bind (slicePart_none (wpAny_bind (wpAny_pure ?_)))))
  show wpAny _ _ (pure (((items.size : Int) - 1), (-1 : Int), Builtin.Slice.slicePlaces ((items.size : Int) - 1) (-1) (-1))) _ _ s
  rw [places_back]
  apply wpAny_pure
  have no : ¬ (((((items.size : Int) - 1) == 0 && (-1 : Int) == 1) && items.size == items.size) = true) := by simp
  show wpAny _ _ (if ((((items.size : Int) - 1) == 0 && (-1 : Int) == 1) && items.size == items.size) = true then _ else _) _ _ s
  rw [if_neg no, pick_back]
  have ok : sizeOk (.seq items.toList.reverse.toArray) := by
    show items.toList.reverse.toArray.size ≤ sizeLine
    rw [List.size_toArray, List.length_reverse, Array.length_toList]; exact hsz
  first
    | exact wpAny_bind (m := Builtin.Tuple.tupleExact _) (wpAny_newObj_type (wpAny_pure ⟨_, rfl, wpAny_pure h⟩) ok)
    | exact wpAny_bind (m := Builtin.Tuple.tupleExact _) (wpAny_newObj_type (wpAny_bind (wpAny_pure (wpAny_pure ⟨_, rfl, wpAny_pure h⟩))) ok)
theorem pe_revF {e : Expr} {te : TE} {j : Nat} {p0 p1 p2 pos : Pos} (he : PE X e te) : PE X (.Subscript e (.Slice none none (some (.UnaryOp .USub (.Constant (.int 1) j p0) p1)) p2) pos) (tRevF X.K te) := by
  have hs : PO X (some (.UnaryOp .USub (.Constant (.int 1) j p0) p1)) _ := po_some (pe_un un_neg pe_int)
  constructor
  intro pins s σ H Q I h
  refine Subscript_ (thn (he.run pins s σ H _ I h) ?_)
  rintro v s1 ⟨x, H1, I1, r1, a, xs, rfl, sq, q⟩
  obtain rfl : v = .ref a := r1
  refine wpAny_Slice ?_
  rw [evalPart_none]
  refine wpAny_pure ?_
  refine wpAny_pure ?_
  refine thn (hs.run pins s1 σ H1 (fun o H2 => o = some (-1) ∧ H2 = H1) I1 ?_) ?_
  · exact ⟨_, rfl, _, rfl, rfl, rfl⟩
  rintro vk s3 ⟨u, H3, I3, pu, rfl, rfl⟩
  obtain ⟨tk, rfl⟩ : ∃ tk, vk = .int (-1) tk := by
    cases pu with
    | int i t => exact ⟨t, rfl⟩
  have I4 : L2.Inv X pins σ H3 { s3 with heap := s3.heap.push { cls := .type "slice", data := .fields #[.none, .none, .int (-1) tk] } } := I3.kept (t' := s3.toks) fun b ob q => Heap.get?_push_of_some _ q
  obtain ⟨its, r, ht, hz⟩ := I4.tuple sq
  have many : its.toArray.size = xs.length := by rw [List.size_toArray]; exact r.length.symm
  have done := getItem_tuple_back (prog := X.prog) (w := X.w) (A := X.A) (E := X.xe) (Q := EP X pins σ Q) ht (Heap.IsSliceOf.new ..) (put_tup I4 (by simpa using r.reverse) (by rw [List.length_reverse]; exact hz) q) (by rw [many]; exact hz)
  exact tail_any (ops := [.ref a, .ref s3.heap.objs.size]) ht.typeIs PyProof.Rows.slot_tuple_getitem.lookup done (by with_unfolding_all rfl)
/-- a target x, y -/
theorem pg_two {K : PySem.W.Frag} {i j k : Nat} {x y : Str} {p1 p2 pos : Pos} (hK : X.K = K) (hc : X.calm = true) (hN : X.N.Nodup) (hi : X.N[i]? = some x) (hj : X.N[j]? = some y) (hx : Loc X.env.scope x) (hy : Loc X.env.scope y)
    (fx : X.fn x = true ∨ X.env.scope.names.lookup x = some .local := by first | exact .inl rfl | exact .inr rfl) (fy : X.fn y = true ∨ X.env.scope.names.lookup y = some .local := by first | exact .inl rfl | exact .inr rfl) :
    PG X (.Tuple [.Name x p1, .Name y p2] k pos) (gTup K 2 (gCons (gName i) (gCons (gName j) gNil))) := by
  subst hK
  exact pg_tup hc (pgs_cons (pg_name hN hi hx fx) (pgs_cons (pg_name hN hj hy fy) pgs_nil))
/-- the pairs as they lie -/
theorem pairs_raw {pins : List (Addr × Obj)} {σ : L2.St} {H : Hp} {s : Shared} (I : L2.Inv X pins σ H s) : ∀ {ps : List Addr} {kvs : List (Key × V)}, Paired (fun p kv => SqT X.K H p [kV kv.1, kv.2]) ps kvs →
    ∃ (raw : List (Value × Value)) (prs : List (Key × Value)), KV kvs prs ∧ raw.length = ps.length ∧ prs.length = ps.length ∧
      ∀ (j : Nat) (k v : Value), raw[j]? = some (k, v) → (∃ b, ps[j]? = some b ∧ IsTup s.heap b #[k, v]) ∧ ∃ key, prs[j]? = some (key, v) ∧ keyIs key k = true
  | _, _, .nil => ⟨[], [], .nil, rfl, rfl, fun j k v e => by simp at e⟩
  | _, _, .cons (a := p) (b := kv) h t => by
    obtain ⟨raw, prs, r, h1, h2, hp⟩ := pairs_raw I t
    obtain ⟨its, rv, ht, _⟩ := I.tuple h
    obtain ⟨u, y, ei, ru, ry⟩ := vals2 rv
    subst ei
    refine ⟨(u, y) :: raw, (kv.1, y) :: prs, .cons ⟨rfl, ry⟩ r, by simp [h1], by simp [h2], ?_⟩
    intro j k v e
    cases j with
    | zero =>
      cases e
      exact ⟨⟨p, rfl, ht⟩, kv.1, rfl, kV_is (P := X.prog) (w := X.w) ru⟩
    | succ j => simpa using hp j k v (by simpa using e)
/-- dict(t), t a tuple of pairs -/
theorem call_dictT (hcalm : X.calm = true) : CallR X (.type "dict") (fun xs H Q => ∃ (a : Addr) (ps : List Addr) (kvs : List (Key × V)), xs = [.ref a] ∧ Tz H a (ps.map V.ref) ∧ Paired (fun p kv => SqT X.K H p [kV kv.1, kv.2]) ps kvs ∧
    ∀ p, H p = none → Q (.ref p) (upd H p (.dK (mergeK [] kvs)))) := by
  intro pins s σ H xs us Q I r q
  obtain ⟨a, ps, kvs, rfl, hq, hp, q⟩ := q
  obtain ⟨u, rfl, rx⟩ := vals1 r
  obtain rfl : u = Value.ref a := rx
  obtain ⟨o, ea, hd⟩ := hq
  obtain ⟨ho0, hz, its, rv, o1, ho, hc, n, hdat⟩ := (show ObjOk X.prog X.w H s.heap a (.frz o (.tup (ps.map V.ref))) from I.hok a _ ea)
  rw [ho0] at ho
  cases ho
  obtain rfl := refs_at rv
  rw [List.length_map] at hz
  obtain ⟨raw, prs, rel, l1, l2, hpr⟩ := pairs_raw I hp
  have P := PairArg.tuple (prog := X.prog) (w := X.w) a (ps.map Value.ref).toArray (fun j => ps.getD j 0) raw
  refine PySem.call_dict_pairs (knd := mixKind X.prog X.w) (kvs := prs) P (I.ok.hd hcalm) ⟨⟨o, n, ho0, hc, hd, hdat⟩, by simp [l1], ?_⟩ ⟨by rw [l1, l2], ?_⟩ (by rw [l1]; exact hz) ?_
  · intro j k v e
    obtain ⟨⟨b, hb, ht⟩, _⟩ := hpr j k v e
    have eb : ps.getD j 0 = b := by simp [List.getD, hb]
    exact ⟨by simp [eb, hb], .inl (by show s.heap.IsTuple (ps.getD j 0) _; rw [eb]; exact ht)⟩
  · intro j k v e
    obtain ⟨_, key, e1, e2⟩ := hpr j k v e
    exact ⟨key, e1, e2⟩
  · intro h' tk hd' k
    have k' : ∀ b o, s.heap.get? b = some o → h'.get? b = some o := fun b o e => k b o (by simp) e
    have hm : (s.heap.objs.size == sysModules) = false := beq_eq_false_iff_ne.mpr (Nat.ne_of_gt I.big)
    have hlen : (mergeK [] kvs).length ≤ sizeLine := by
      have := length_mergeK kvs []
      rw [List.length_nil, Nat.zero_add, rel.length, l2] at this
      omega
    exact ⟨.ref s.heap.objs.size, upd H s.heap.objs.size (.dK (mergeK [] kvs)), I.laid (t' := tk) k' (Nat.le_refl _) (show ObjOk X.prog X.w _ _ _ (.dK (mergeK [] kvs)) from ⟨hlen, hm, merged [] prs, KV.merge rel .nil, hd'⟩), rfl, q _ (I.hok.fresh (Nat.le_refl _))⟩
end
end SG
namespace SG
open PySem PySem.Spec PyProof.Rows L2
def top (i : Nat) : Stmt := PySem.Challenge.pw_strokeguess_k73_machines_or_not.main.body.getD i (.Pass ⟨0, 0, 0, 0⟩)

structure Txt (K : PySem.W.Frag) (mg : Str → Option Value) : Prop where
  m_all : mg "all" = none
  m_any : mg "any" = none
  m_bool : mg "bool" = none
  m_dict : mg "dict" = none
  m_int : mg "int" = none
  m_isinstance : mg "isinstance" = none
  m_len : mg "len" = none
  m_list : mg "list" = none
  m_min : mg "min" = none
  m_range : mg "range" = none
  m_repr : mg "repr" = none
  m_set : mg "set" = none
  m_str : mg "str" = none
  m_tuple : mg "tuple" = none
  mMOST_STATESx : ∃ t, mg "MOST_STATES" = some (.int 8 t)
  mLONGEST_WAITx : ∃ t, mg "LONGEST_WAIT" = some (.int 10000 t)
  mSTEP_WORDSx : ∃ a, mg "STEP_WORDS" = some (.ref a) ∧ ∀ H : Hp, SqT K H a [.str "out", .str "up", .str "down", .str "wait"]
  mENDSx : ∃ a, mg "ENDS" = some (.ref a) ∧ ∀ H : Hp, SqT K H a [.str "claim", .str "give"]
abbrev sis_between : Stmt := top 1
abbrev Nis_between : List Str := ["thing", "least", "most"]
theorem scis_between : FnScope Nis_between ["thing", "least", "most"] (defScope sis_between) := ⟨rfl, rfl, rfl, by decide +kernel, rfl, by decide +kernel, by decide +kernel⟩

abbrev sis_row : Stmt := top 2
abbrev Nis_row : List Str := ["thing", "many"]
theorem scis_row : FnScope Nis_row ["thing", "many"] (defScope sis_row) := ⟨rfl, rfl, rfl, by decide +kernel, rfl, by decide +kernel, by decide +kernel⟩

abbrev sare_unlike : Stmt := top 3
abbrev Nare_unlike : List Str := ["keys"]
theorem scare_unlike : FnScope Nare_unlike ["keys"] (defScope sare_unlike) := ⟨rfl, rfl, rfl, by decide +kernel, rfl, by decide +kernel, by decide +kernel⟩

abbrev sis_machine : Stmt := top 9
abbrev Nis_machine : List Str := ["thing", "state"]
theorem scis_machine : FnScope Nis_machine ["thing"] (defScope sis_machine) := ⟨rfl, rfl, rfl, by decide +kernel, rfl, by decide +kernel, by decide +kernel⟩

abbrev sstepped : Stmt := top 10
abbrev Nstepped : List Str := ["machine", "state", "word", "steps", "known", "goal"]
theorem scstepped : FnScope Nstepped ["machine", "state", "word"] (defScope sstepped) := ⟨rfl, rfl, rfl, by decide +kernel, rfl, by decide +kernel, by decide +kernel⟩

abbrev s_is_state : Stmt := top 11
abbrev N_is_state : List Str := ["thing", "many", "wait", "steps", "words", "step"]
theorem sc_is_state : FnScope N_is_state ["thing", "many"] (defScope s_is_state) := ⟨rfl, rfl, rfl, by decide +kernel, rfl, by decide +kernel, by decide +kernel⟩

abbrev s_is_step : Stmt := top 12
abbrev N_is_step : List Str := ["thing", "many", "word", "goal"]
theorem sc_is_step : FnScope N_is_step ["thing", "many"] (defScope s_is_step) := ⟨rfl, rfl, rfl, by decide +kernel, rfl, by decide +kernel, by decide +kernel⟩

abbrev s_waits_on : Stmt := top 13
abbrev N_waits_on : List Str := ["machine", "state", "_"]
theorem sc_waits_on : FnScope N_waits_on ["machine", "state"] (defScope s_waits_on) := ⟨rfl, rfl, rfl, by decide +kernel, rfl, by decide +kernel, by decide +kernel⟩

abbrev s_law_tape : Stmt := top 15
abbrev N_law_tape : List Str := ["_law_script"]
theorem sc_law_tape : FnScope N_law_tape ["_law_script"] (defScope s_law_tape) := ⟨rfl, rfl, rfl, by decide +kernel, rfl, by decide +kernel, by decide +kernel⟩

abbrev s_law_draw : Stmt := top 16
abbrev N_law_draw : List Str := ["_law_tape_here", "_law_many", "_law_spot", "_law_cells", "_law_cell", "_law_seed", "_law_found"]
theorem sc_law_draw : FnScope N_law_draw ["_law_tape_here", "_law_many"] (defScope s_law_draw) := ⟨rfl, rfl, rfl, by decide +kernel, rfl, by decide +kernel, by decide +kernel⟩

abbrev s_law_pick : Stmt := top 17
abbrev N_law_pick : List Str := ["_law_tape_here", "_law_some"]
theorem sc_law_pick : FnScope N_law_pick ["_law_tape_here", "_law_some"] (defScope s_law_pick) := ⟨rfl, rfl, rfl, by decide +kernel, rfl, by decide +kernel, by decide +kernel⟩

abbrev s_law_lead : Stmt := top 18
abbrev N_law_lead : List Str := ["_law_machine_here", "_law_at", "_law_word"]
theorem sc_law_lead : FnScope N_law_lead ["_law_machine_here", "_law_at", "_law_word"] (defScope s_law_lead) := ⟨rfl, rfl, rfl, by decide +kernel, rfl, by decide +kernel, by decide +kernel⟩

abbrev s_law_moved : Stmt := top 19
abbrev N_law_moved : List Str := ["_law_states", "_law_order", "_law_spots", "_law_found", "_law_at", "_law_wait", "_law_steps", "_law_k", "_law_word", "_law_goal"]
theorem sc_law_moved : FnScope N_law_moved ["_law_states", "_law_order"] (defScope s_law_moved) := ⟨rfl, rfl, rfl, by decide +kernel, rfl, by decide +kernel, by decide +kernel⟩

abbrev s_law_machine : Stmt := top 20
abbrev N_law_machine : List Str := ["_law_tape_here", "_law_many", "_law_waits", "_law_states", "_law_order", "_law_at", "_law_ends", "_law_wait", "_law_steps", "_law_word", "_law_goal", "_law_later", "_law_step"]
theorem sc_law_machine : FnScope N_law_machine ["_law_tape_here", "_law_many"] (defScope s_law_machine) := ⟨rfl, rfl, rfl, by decide +kernel, rfl, by decide +kernel, by decide +kernel⟩

abbrev s_law_is_goal : Stmt := top 21
abbrev N_law_is_goal : List Str := ["_law_thing", "_law_many"]
theorem sc_law_is_goal : FnScope N_law_is_goal ["_law_thing", "_law_many"] (defScope s_law_is_goal) := ⟨rfl, rfl, rfl, by decide +kernel, rfl, by decide +kernel, by decide +kernel⟩

abbrev s_law_is_state : Stmt := top 22
abbrev N_law_is_state : List Str := ["_law_thing", "_law_many", "_law_wait", "_law_words", "_law_step", "_law_strange", "_law_word"]
theorem sc_law_is_state : FnScope N_law_is_state ["_law_thing", "_law_many"] (defScope s_law_is_state) := ⟨rfl, rfl, rfl, by decide +kernel, rfl, by decide +kernel, by decide +kernel⟩

abbrev s_law_is_machine : Stmt := top 23
abbrev N_law_is_machine : List Str := ["_law_thing", "_law_begin", "_law_at", "_law_turn", "_law_state"]
theorem sc_law_is_machine : FnScope N_law_is_machine ["_law_thing"] (defScope s_law_is_machine) := ⟨rfl, rfl, rfl, by decide +kernel, rfl, by decide +kernel, by decide +kernel⟩

abbrev s_law_bent : Stmt := top 24
abbrev N_law_bent : List Str := ["_law_tape_here", "_law_thing", "_law_at"]
theorem sc_law_bent : FnScope N_law_bent ["_law_tape_here", "_law_thing"] (defScope s_law_bent) := ⟨rfl, rfl, rfl, by decide +kernel, rfl, by decide +kernel, by decide +kernel⟩

abbrev s_law_agrees : Stmt := top 25
abbrev N_law_agrees : List Str := ["_law_thing", "_law_kept", "_law_found"]
theorem sc_law_agrees : FnScope N_law_agrees ["_law_thing"] (defScope s_law_agrees) := ⟨rfl, rfl, rfl, by decide +kernel, rfl, by decide +kernel, by decide +kernel⟩

abbrev slaw : Stmt := top 26
abbrev Nlaw : List Str := ["_law_script", "_law_tape_here", "_law_turn", "_law_machine_here", "_law_at", "_law_word", "_law_due", "_law_again", "_law_bent_here", "_law_many", "_law_ring", "_law_open_one", "_law_thing", "_law_k"]
theorem sclaw : FnScope Nlaw ["_law_script"] (defScope slaw) := ⟨rfl, rfl, rfl, by decide +kernel, rfl, by decide +kernel, by decide +kernel⟩

end SG
namespace SG
open PySem PySem.Spec PyProof.Rows L2
/-! ### data in a heap that grows -/
theorem same_sqT {K : PySem.W.Frag} {H H' : Hp} {a : Addr} {xs : List V} (e : Same H H') (h : SqT K H a xs) : SqT K H' a xs := Same.tup e h
theorem same_sqL {K : PySem.W.Frag} {H H' : Hp} {a : Addr} {xs : List V} (e : Same H H') (h : SqL K H a xs) : SqL K H' a xs := by
  rcases h with (h | ⟨o, h⟩) | h
  · exact .inl (.inl (e _ _ h))
  · exact .inl (.inr ⟨o, e _ _ h⟩)
  · exact .inr h
mutual
theorem Dp.same {K : PySem.W.Frag} {H H' : Hp} (e : Same H H') : ∀ {d : PyData} {v : V}, Dp K H v d → Dp K H' v d
  | _, _, .non => .non
  | _, _, .bl b => .bl b
  | _, _, .int i => .int i
  | _, _, .str x => .str x
  | _, _, .lst a b => .lst (same_sqL e a) (DpAll.same e b)
  | _, _, .tup a b => .tup (same_sqT e a) (DpAll.same e b)
theorem DpAll.same {K : PySem.W.Frag} {H H' : Hp} (e : Same H H') : ∀ {ds : List PyData} {vs : List V}, DpAll K H vs ds → DpAll K H' vs ds
  | _, _, .nil => .nil
  | _, _, .cons h t => .cons (Dp.same e h) (DpAll.same e t)
end
mutual
theorem Dp.plain {K : PySem.W.Frag} {H : Hp} : ∀ {d : PyData} {v : V}, Dp K H v d → d.plain = true
  | _, _, .non => rfl
  | _, _, .bl _ => rfl
  | _, _, .int _ => rfl
  | _, _, .str _ => rfl
  | _, _, .lst _ a => DpAll.plain a
  | _, _, .tup _ a => DpAll.plain a
theorem DpAll.plain {K : PySem.W.Frag} {H : Hp} : ∀ {ds : List PyData} {vs : List V}, DpAll K H vs ds → PyData.plainAll ds = true
  | _, _, .nil => rfl
  | _, _, .cons h t => by
    show (PyData.plain _ && PyData.plainAll _) = true
    rw [Dp.plain h, DpAll.plain t]; rfl
end
theorem DpAll.len {K : PySem.W.Frag} {H : Hp} : ∀ {ds : List PyData} {vs : List V}, DpAll K H vs ds → vs.length = ds.length
  | _, _, .nil => rfl
  | _, _, .cons _ t => by simp [DpAll.len t]
theorem DpAll.get {K : PySem.W.Frag} {H : Hp} : ∀ {ds : List PyData} {vs : List V}, DpAll K H vs ds → ∀ {i : Nat} {d : PyData}, ds[i]? = some d → ∃ v, vs[i]? = some v ∧ Dp K H v d
  | _, _, .nil, i, d, h => by simp at h
  | _, _, .cons a t, 0, d, h => by
    simp only [List.getElem?_cons_zero, Option.some.injEq] at h
    subst h
    exact ⟨_, rfl, a⟩
  | _, _, .cons a t, i + 1, d, h => by
    simp only [List.getElem?_cons_succ] at h
    obtain ⟨v, e, q⟩ := DpAll.get t h
    exact ⟨v, by simpa using e, q⟩
theorem dp_strs {K : PySem.W.Frag} {H : Hp} : ∀ ss : List Str, DpAll K H (ss.map V.str) (ss.map PyData.str)
  | [] => .nil
  | s :: ss => .cons (.str s) (dp_strs ss)
/-! ### what a machine is, over data -/
def bet (d : PyData) (lo hi : Int) : Bool := match d with | .int i => decide (lo ≤ i) && decide (i ≤ hi) | _ => false
def wordsL : List Str := ["out", "up", "down", "wait"]
def endsL : List Str := ["claim", "give"]
def inL (ss : List Str) (d : PyData) : Bool := (ss.map PyData.str).any fun e => PyData.eqv e d
def isG (n : Nat) (d : PyData) : Bool := inL endsL d || bet d 0 ((n : Int) - 1)
def isStep (n : Nat) : PyData → Bool
  | .tuple [w, g] => inL wordsL w && isG n g
  | _ => false
def wordOf : PyData → Str
  | .tuple (.str s :: _) => s
  | _ => ""
def isSteps (n : Nat) (w : Bool) (ss : List PyData) : Bool :=
  ss.all (isStep n) && (decide ((seen (ss.map wordOf) ss.length).length = ss.length) && ((ss.map wordOf).any (· == "wait") == w))
def isState (n : Nat) : PyData → Bool
  | .tuple [.none, .tuple ss] => isSteps n false ss
  | .tuple [w, .tuple ss] => bet w 1 10000 && isSteps n true ss
  | _ => false
theorem eqv_str {a : Str} {d : PyData} (h : PyData.eqv (.str a) d = true) : d = .str a := by
  cases d <;> simp [PyData.eqv] at h
  · rw [h]
theorem inL_str {ss : List Str} {d : PyData} (h : inL ss d = true) : ∃ s, s ∈ ss ∧ d = .str s := by
  unfold inL at h
  rw [List.any_map, List.any_eq_true] at h
  obtain ⟨s, hs, e⟩ := h
  exact ⟨s, hs, eqv_str e⟩
theorem inL_of {ss : List Str} {s : Str} (h : s ∈ ss) : inL ss (.str s) = true := by
  unfold inL
  rw [List.any_map, List.any_eq_true]
  exact ⟨s, h, by simp [PyData.eqv]⟩
theorem isStep_two {n : Nat} {d : PyData} (h : isStep n d = true) : ∃ a b, d = .tuple [a, b] := by
  unfold isStep at h
  split at h
  · exact ⟨_, _, rfl⟩
  · cases h
def rowN (n : Nat) : PyData → Bool
  | .tuple ds => decide (ds.length = n)
  | _ => false
theorem rowN_two {d : PyData} (h : rowN 2 d = true) : ∃ a b, d = .tuple [a, b] := by
  unfold rowN at h
  split at h
  · rename_i ds
    match ds, h with
    | [a, b], _ => exact ⟨a, b, rfl⟩
    | [], h => simp at h
    | [_], h => simp at h
    | _ :: _ :: _ :: _, h => simp at h
  · cases h
theorem Dp.tupOf {K : PySem.W.Frag} {H : Hp} {x : V} {ds : List PyData} (h : Dp K H x (.tuple ds)) : ∃ a xs, x = .ref a ∧ SqT K H a xs ∧ DpAll K H xs ds := by
  cases h with
  | tup a b => exact ⟨_, _, rfl, a, b⟩
theorem DpAll.two {K : PySem.W.Frag} {H : Hp} {xs : List V} {a b : PyData} (h : DpAll K H xs [a, b]) : ∃ u v, xs = [u, v] ∧ Dp K H u a ∧ Dp K H v b := by
  cases h with
  | cons ha t => cases t with
    | cons hb t => cases t; exact ⟨_, _, rfl, ha, hb⟩
def goalOf : PyData → PyData
  | .tuple [_, g] => g
  | _ => .none
def stepsOf : PyData → List PyData
  | .tuple [_, .tuple ss] => ss
  | _ => []
def leadD (ss : List PyData) (w : Str) : Option PyData := (ss.find? fun s => wordOf s == w).map goalOf
def stepD (sts : List PyData) (i : Nat) (w : Str) : PyData :=
  match leadD (stepsOf (sts.getD i .none)) w with
  | some g => g
  | none => if w = "out" ∨ w = "up" then .str "give" else .none
theorem isState_two {n : Nat} {d : PyData} (h : isState n d = true) : ∃ a ss, d = .tuple [a, .tuple ss] ∧ ss.all (isStep n) = true := by
  unfold isState at h
  split at h
  · refine ⟨_, _, rfl, ?_⟩
    unfold isSteps at h
    simp only [Bool.and_eq_true] at h
    exact h.1
  · refine ⟨_, _, rfl, ?_⟩
    unfold isSteps at h
    simp only [Bool.and_eq_true] at h
    exact h.2.1
  · cases h
theorem isStep_parts {n : Nat} {d : PyData} (h : isStep n d = true) : ∃ w g, d = .tuple [.str w, g] ∧ w ∈ wordsL ∧ isG n g = true := by
  obtain ⟨a, b, rfl⟩ := isStep_two h
  have h' : (inL wordsL a && isG n b) = true := h
  rw [Bool.and_eq_true] at h'
  obtain ⟨s, hs, rfl⟩ := inL_str h'.1
  exact ⟨s, b, rfl, hs, h'.2⟩
/-- a list made of a tuple, item by item -/
theorem lc_mapT {K : PySem.W.Frag} {a : Addr} {xs : List V} {g : TG} {te : TE} {vs : List Nat} {σ : L2.St} {H : Hp} {D : Addr} {Qd : Hp → Prop} (F : Nat → V) (h : SqT K H a xs) (D0 : H D = none) (few : xs.length < 100000)
    (hs : ∀ i x Hx (N : V → Hp → Prop) (O : Hp → Prop), xs[i]? = some x → Same H Hx → (∀ H4, Same Hx H4 → N (F i) H4) → g x (wipe σ vs) Hx fun σ2 H2 => wipe σ2 vs = wipe σ vs ∧ tYes σ2 H2 fun b H3 => if b = true then te σ2 H3 N else O H3)
    (hd : ∀ Hx, Same H Hx → Hx D = some (.lst ((List.range xs.length).map F)) → Qd Hx) :
    ∃ W : Nat → Nat → Hp → Prop, (∃ m, W 0 m (upd H D (.lst []))) ∧ ∀ i m H, W i m H →
      ((Itt K a).stop i H ∧ Qd H) ∨ ((Itt K a).go i H ∧ ∃ Nx : Hp → Prop, (∀ H', Nx H' → ∃ m', m' < m ∧ W (i + 1) m' H') ∧ ∀ x H', (Itt K a).yld i H x H' → g x (wipe σ vs) H' fun σ2 H2 => wipe σ2 vs = wipe σ vs ∧ tYes σ2 H2 fun b H3 =>
        if b = true then te σ2 H3 fun y H4 => ∃ acc, H4 D = some (.lst acc) ∧ acc.length < sizeLine ∧ Nx (upd H4 D (.lst (acc ++ [y]))) else Nx H3) := by
  refine lc_tup (K := K) (a := a) (xs := xs) (fun i Hx => Hx D = some (.lst ((List.range i).map F)) ∧ Same H Hx) ⟨upd_same, same_new D0⟩ (fun i Hx _ ⟨_, sx⟩ => same_sqT sx h) ?_ ?_
  · rintro i x Hx hi ⟨hD, sx⟩
    have hil := (List.getElem?_eq_some_iff.mp hi).1
    have few' : 100000 ≤ sizeLine := by decide
    have step : ∀ H4, Same Hx H4 → ∃ acc, H4 D = some (.lst acc) ∧ acc.length < sizeLine ∧ ((upd H4 D (.lst (acc ++ [F i]))) D = some (.lst ((List.range (i + 1)).map F)) ∧ Same H (upd H4 D (.lst (acc ++ [F i])))) := by
      intro H4 s4
      refine ⟨_, s4 _ _ hD, ?_, ?_, ?_⟩
      · rw [List.length_map, List.length_range]; omega
      · rw [upd_same, List.range_succ, List.map_append]; rfl
      · intro p o e
        rw [upd_ne (ne_of_none e D0)]
        exact s4 _ _ (sx _ _ e)
    exact hs i x Hx _ _ hi sx step
  · rintro Hx ⟨hD, sx⟩
    exact hd Hx sx hD
theorem find_at {α : Type} {p : α → Bool} {ss : List α} {j : Nat} {s : α} (h : (ss.take j).find? p = none) (e : ss[j]? = some s) (hs : p s = true) : ss.find? p = some s := by
  have hj := (List.getElem?_eq_some_iff.mp e).1
  have e' := (List.getElem?_eq_some_iff.mp e).2
  have sp : ss = ss.take j ++ s :: ss.drop (j + 1) := by
    rw [← e', ← List.drop_eq_getElem_cons hj, List.take_append_drop]
  rw [sp, List.find?_append, h, List.find?_cons, hs]
  rfl
theorem find_no {α : Type} {p : α → Bool} {ss : List α} {j : Nat} {s : α} (h : (ss.take j).find? p = none) (e : ss[j]? = some s) (hs : ¬ p s = true) : (ss.take (j + 1)).find? p = none := by
  have hj := (List.getElem?_eq_some_iff.mp e).1
  have e' := (List.getElem?_eq_some_iff.mp e).2
  rw [List.take_succ_eq_append_getElem hj, List.find?_append, h, e', List.find?_cons]
  rw [Bool.eq_false_iff.mpr hs]
  rfl
/-! ### how large data is -/
mutual
def wt : PyData → Nat
  | .none | .bool _ | .int _ | .dict _ => 70
  | .str x => 70 + 10 * x.length
  | .list xs | .tuple xs => 10 + wtAll xs
def wtAll : List PyData → Nat
  | [] => 0
  | x :: xs => wt x + 2 + wtAll xs
end
theorem wt_ten : ∀ d : PyData, 10 ≤ wt d
  | .none => by simp [wt]
  | .bool _ => by simp [wt]
  | .int _ => by simp [wt]
  | .dict _ => by simp [wt]
  | .str _ => by simp [wt]; omega
  | .list _ => by simp [wt]
  | .tuple _ => by simp [wt]
theorem wtAll_len : ∀ ds : List PyData, 12 * ds.length ≤ wtAll ds
  | [] => by simp [wtAll]
  | d :: ds => by
    have := wt_ten d
    have := wtAll_len ds
    simp only [wtAll, List.length_cons]
    omega
theorem wtAll_mem : ∀ {ds : List PyData} {d : PyData}, d ∈ ds → wt d ≤ wtAll ds
  | d' :: ds, d, h => by
    simp only [wtAll]
    cases h with
    | head => omega
    | tail _ h => have := wtAll_mem h; omega
theorem isState_none (n : Nat) (ss : List PyData) : isState n (.tuple [.none, .tuple ss]) = isSteps n false ss := rfl
theorem isState_some {n : Nat} {a : PyData} {ss : List PyData} (h : a ≠ .none) : isState n (.tuple [a, .tuple ss]) = (bet a 1 10000 && isSteps n true ss) := by
  cases a <;> first | rfl | exact absurd rfl h
def isNon : PyData → Bool
  | .none => true
  | _ => false
theorem isState_eq (n : Nat) (a : PyData) (ss : List PyData) : isState n (.tuple [a, .tuple ss]) = ((isNon a || bet a 1 10000) && isSteps n (!isNon a) ss) := by
  cases a <;> rfl
theorem Dp.isNon {K : PySem.W.Frag} {H : Hp} {v : V} {d : PyData} (h : Dp K H v d) : decide (v = .non) = SG.isNon d := by
  cases h <;> simp [SG.isNon]
theorem isState_wait {n : Nat} {a b : PyData} (h : (SG.isNon a || bet a 1 10000) = false) : isState n (.tuple [a, b]) = false := by
  cases e : isState n (.tuple [a, b]) with
  | false => rfl
  | true =>
    obtain ⟨a', ss, eq, _⟩ := isState_two e
    cases eq
    rw [isState_eq, h] at e
    exact e.symm
theorem isState_tup {n : Nat} {a b : PyData} (h : b.isTuple = false) : isState n (.tuple [a, b]) = false := by
  cases e : isState n (.tuple [a, b]) with
  | false => rfl
  | true =>
    obtain ⟨a', ss, eq, _⟩ := isState_two e
    cases eq
    cases h
theorem isState_all {n : Nat} {a : PyData} {ss : List PyData} (h : ss.all (isStep n) = false) : isState n (.tuple [a, .tuple ss]) = false := by
  rw [isState_eq]
  unfold isSteps
  rw [h, Bool.false_and, Bool.and_false]
theorem map_range_get {α : Type} {β : Type} {f : α → β} {d : α} (ss : List α) : (List.range ss.length).map (fun i => f (ss.getD i d)) = ss.map f := by
  apply List.ext_getElem
  · simp
  · intro i h1 h2
    simp only [List.length_map, List.length_range] at h1
    simp [List.getD_eq_getElem?_getD, List.getElem?_eq_getElem h1]
theorem inV_strs (s : Str) (ss : List Str) : inV (.str s) (ss.map V.str) = ss.any (· == s) := by
  unfold inV
  rw [List.any_map]
  rfl
/-- a list made of a range, number by number -/
theorem lc_mapR {lo : Int} {n : Nat} {g : TG} {te : TE} {vs : List Nat} {σ : L2.St} {H : Hp} {D : Addr} {Qd : Hp → Prop} (F : Nat → V) (D0 : H D = none) (few : n < 100000)
    (hs : ∀ i Hx (N : V → Hp → Prop) (O : Hp → Prop), i < n → Same H Hx → (∀ H4, Same Hx H4 → N (F i) H4) → g (.int (lo + i)) (wipe σ vs) Hx fun σ2 H2 => wipe σ2 vs = wipe σ vs ∧ tYes σ2 H2 fun b H3 => if b = true then te σ2 H3 N else O H3)
    (hd : ∀ Hx, Same H Hx → Hx D = some (.lst ((List.range n).map F)) → Qd Hx) :
    ∃ W : Nat → Nat → Hp → Prop, (∃ m, W 0 m (upd H D (.lst []))) ∧ ∀ i m H, W i m H →
      ((Itr lo n).stop i H ∧ Qd H) ∨ ((Itr lo n).go i H ∧ ∃ Nx : Hp → Prop, (∀ H', Nx H' → ∃ m', m' < m ∧ W (i + 1) m' H') ∧ ∀ x H', (Itr lo n).yld i H x H' → g x (wipe σ vs) H' fun σ2 H2 => wipe σ2 vs = wipe σ vs ∧ tYes σ2 H2 fun b H3 =>
        if b = true then te σ2 H3 fun y H4 => ∃ acc, H4 D = some (.lst acc) ∧ acc.length < sizeLine ∧ Nx (upd H4 D (.lst (acc ++ [y]))) else Nx H3) := by
  refine lc_range (n := n) (fun i Hx => Hx D = some (.lst ((List.range i).map F)) ∧ Same H Hx) ⟨upd_same, same_new D0⟩ ?_ ?_
  · rintro i Hx hi ⟨hD, sx⟩
    have few' : 100000 ≤ sizeLine := by decide
    have step : ∀ H4, Same Hx H4 → ∃ acc, H4 D = some (.lst acc) ∧ acc.length < sizeLine ∧ ((upd H4 D (.lst (acc ++ [F i]))) D = some (.lst ((List.range (i + 1)).map F)) ∧ Same H (upd H4 D (.lst (acc ++ [F i])))) := by
      intro H4 s4
      refine ⟨_, s4 _ _ hD, ?_, ?_, ?_⟩
      · rw [List.length_map, List.length_range]; omega
      · rw [upd_same, List.range_succ, List.map_append]; rfl
      · intro p o e
        rw [upd_ne (ne_of_none e D0)]
        exact s4 _ _ (sx _ _ e)
    exact hs i Hx _ _ hi sx step
  · rintro Hx ⟨hD, sx⟩
    exact hd Hx sx hD
/-! ### rings by waits -/
def nextW (sts : List PyData) (i : Nat) : Option Nat := match stepD sts i "wait" with | .int j => some j.toNat | _ => none
def runF (sts : List PyData) : Nat → Nat → Option Nat
  | 0, i => some i
  | k + 1, i => (runF sts k i).bind (nextW sts)
def isMach : PyData → Bool
  | .tuple sts => (decide (1 ≤ sts.length) && decide (sts.length ≤ 8)) && (sts.all (isState sts.length) && !((List.range sts.length).any fun i => (runF sts sts.length i).isSome))
  | _ => false
theorem leadD_goal {n : Nat} {ss : List PyData} {w : Str} {g : PyData} (ok : ss.all (isStep n) = true) (h : leadD ss w = some g) : isG n g = true := by
  unfold leadD at h
  cases e : ss.find? (fun s => wordOf s == w) with
  | none => rw [e] at h; cases h
  | some s =>
    rw [e] at h
    obtain ⟨w', g', rfl, _, hg⟩ := isStep_parts (List.all_eq_true.mp ok s (List.mem_of_find?_eq_some e))
    cases h
    exact hg
theorem isG_cases {n : Nat} {g : PyData} (h : isG n g = true) : (∃ s, s ∈ endsL ∧ g = .str s) ∨ ∃ j : Nat, j < n ∧ g = .int j := by
  unfold isG at h
  rw [Bool.or_eq_true] at h
  rcases h with h | h
  · exact .inl (inL_str h)
  · unfold bet at h
    split at h
    · rename_i i
      rw [Bool.and_eq_true] at h
      have h1 := of_decide_eq_true h.1
      have h2 := of_decide_eq_true h.2
      refine .inr ⟨i.toNat, by omega, ?_⟩
      rw [Int.toNat_of_nonneg h1]
    · cases h
theorem steps_ok {sts : List PyData} {n i : Nat} (ok : sts.all (isState n) = true) (hi : i < sts.length) : (stepsOf (sts.getD i .none)).all (isStep n) = true := by
  have e1 : sts[i]? = some sts[i] := List.getElem?_eq_getElem hi
  obtain ⟨a, ss, es, oks⟩ := isState_two (List.all_eq_true.mp ok sts[i] (List.getElem_mem hi))
  rw [List.getD_eq_getElem?_getD, e1, es]
  exact oks
theorem stepD_wait {sts : List PyData} {n i : Nat} (ok : sts.all (isState n) = true) (hi : i < sts.length) :
    stepD sts i "wait" = .none ∨ (∃ s, s ∈ endsL ∧ stepD sts i "wait" = .str s) ∨ ∃ j : Nat, j < n ∧ stepD sts i "wait" = .int j := by
  unfold stepD
  cases e : leadD (stepsOf (sts.getD i .none)) "wait" with
  | none =>
    left
    show (if ("wait" : Str) = "out" ∨ ("wait" : Str) = "up" then PyData.str "give" else .none) = .none
    rw [if_neg (by decide)]
  | some g => exact .inr (isG_cases (leadD_goal (steps_ok ok hi) e))
theorem runF_none {sts : List PyData} {k i : Nat} (h : runF sts k i = none) : ∀ {m : Nat}, k ≤ m → runF sts m i = none := by
  intro m
  induction m with
  | zero => intro hk; obtain rfl : k = 0 := by omega
            exact h
  | succ m ih =>
    intro hk
    by_cases e : k = m + 1
    · rw [← e]; exact h
    · show (runF sts m i).bind (nextW sts) = none
      rw [ih (by omega)]; rfl
theorem isMach_len {sts : List PyData} (h : ¬ (1 ≤ sts.length ∧ sts.length ≤ 8)) : isMach (.tuple sts) = false := by
  unfold isMach
  by_cases h1 : 1 ≤ sts.length
  · have h2 : ¬ sts.length ≤ 8 := fun z => h ⟨h1, z⟩
    simp [h2]
  · simp [h1]
theorem isMach_all {sts : List PyData} (h : sts.all (isState sts.length) = false) : isMach (.tuple sts) = false := by
  unfold isMach
  simp only [h, Bool.false_and, Bool.and_false]
theorem isMach_eq {sts : List PyData} (h1 : 1 ≤ sts.length) (h2 : sts.length ≤ 8) (h : sts.all (isState sts.length) = true) : isMach (.tuple sts) = !((List.range sts.length).any fun i => (runF sts sts.length i).isSome) := by
  unfold isMach
  simp only [h, h1, h2, decide_true, Bool.true_and, Bool.and_self]
/-- as isStep, by any word -/
def isStepS (n : Nat) : PyData → Bool
  | .tuple [.str _, g] => isG n g
  | _ => false
theorem isStepS_parts {n : Nat} {d : PyData} (h : isStepS n d = true) : ∃ w g, d = .tuple [.str w, g] ∧ isG n g = true := by
  unfold isStepS at h
  split at h
  · exact ⟨_, _, rfl, h⟩
  · cases h
theorem isStep_split (n : Nat) (d : PyData) : isStep n d = (isStepS n d && wordsL.contains (wordOf d)) := by
  cases h : isStepS n d with
  | true =>
    obtain ⟨w, g, rfl, hg⟩ := isStepS_parts h
    rw [Bool.true_and]
    show (inL wordsL (.str w) && isG n g) = wordsL.contains w
    rw [hg, Bool.and_true]
    cases e : wordsL.contains w with
    | true => exact inL_of (List.contains_iff_mem.mp e)
    | false =>
      rw [Bool.eq_false_iff]
      intro z
      obtain ⟨s, hs, e'⟩ := inL_str z
      cases e'
      rw [List.contains_iff_mem.mpr hs] at e
      cases e
  | false =>
    rw [Bool.false_and, Bool.eq_false_iff]
    intro z
    obtain ⟨w, g, rfl, _, hg⟩ := isStep_parts z
    have : isG n g = false := h
    rw [this] at hg
    cases hg
theorem all_split (n : Nat) : ∀ ss : List PyData, ss.all (isStep n) = (ss.all (isStepS n) && (ss.map wordOf).all fun w => wordsL.contains w)
  | [] => rfl
  | s :: ss => by
    simp only [List.all_cons, List.map_cons, all_split n ss, isStep_split n s]
    cases isStepS n s <;> cases wordsL.contains (wordOf s) <;> simp
theorem all_not {α : Type} {p : α → Bool} {ss : List α} {j : Nat} {s : α} (e : ss[j]? = some s) (h : p s = false) : ss.all p = false := by
  rw [List.all_eq_false]
  exact ⟨s, List.mem_of_getElem? e, by rw [h]; exact Bool.false_ne_true⟩
/-! ### words, each once -/
theorem seen_any (xs : List Str) (k : Str) : ∀ i, i ≤ xs.length → (seen xs i).any (· == k) = (xs.take i).any (· == k) := by
  intro i
  induction i with
  | zero => intro _; simp [seen]
  | succ i ih =>
    intro h
    have hi : i < xs.length := h
    rw [seen_succ (List.getElem?_eq_getElem hi), dedup_any, ih (by omega), List.take_succ_eq_append_getElem hi, List.any_append]
    congr 1
    simp only [List.any_cons, List.any_nil, Bool.or_false]
    rw [Bool.eq_iff_iff, beq_iff_eq, decide_eq_true_iff]
    exact eq_comm
theorem seen_full {xs : List Str} (h : (seen xs xs.length).length = xs.length) : ∀ m i, i + m = xs.length → (seen xs i).length = i := by
  intro m
  induction m with
  | zero => intro i e; have : i = xs.length := by omega
            rw [this]; exact h
  | succ m ih =>
    intro i e
    have hi : i < xs.length := by omega
    have h1 := ih (i + 1) (by omega)
    rw [seen_succ (List.getElem?_eq_getElem hi), dedup_len] at h1
    have h2 := seen_le xs i
    split at h1 <;> omega
theorem seen_nodup {xs : List Str} (h : (seen xs xs.length).length = xs.length) : xs.Nodup := by
  rw [List.Nodup, List.pairwise_iff_getElem]
  intro i j hi hj lt e
  have h1 := seen_full h (xs.length - (j + 1)) (j + 1) (by omega)
  have h0 := seen_full h (xs.length - j) j (by omega)
  rw [seen_succ (List.getElem?_eq_getElem hj), dedup_len, seen_any xs _ j (by omega)] at h1
  have hit : (xs.take j).any (· == xs[j]) = true := by
    rw [List.any_eq_true]
    refine ⟨xs[i], List.mem_iff_getElem.mpr ⟨i, by rw [List.length_take]; omega, by rw [List.getElem_take]⟩, ?_⟩
    rw [e]; exact beq_self_eq_true _
  rw [if_pos hit] at h1
  omega
theorem isSteps_nodup {n : Nat} {w : Bool} {ss : List PyData} (h : isSteps n w ss = true) : (ss.map wordOf).Nodup := by
  unfold isSteps at h
  simp only [Bool.and_eq_true] at h
  refine seen_nodup ?_
  rw [List.length_map]
  exact of_decide_eq_true h.2.1
theorem isState_nodup {n : Nat} {a : PyData} {ss : List PyData} (h : isState n (.tuple [a, .tuple ss]) = true) : (ss.map wordOf).Nodup := by
  rw [isState_eq, Bool.and_eq_true] at h
  exact isSteps_nodup h.2
theorem merge_nodup : ∀ (kvs acc : List (Key × V)), ((acc ++ kvs).map (·.1)).Nodup → mergeK acc kvs = acc ++ kvs
  | [], acc, _ => by rw [List.append_nil]; rfl
  | kv :: kvs, acc, h => by
    have hn : valV acc kv.1 = none := by
      cases e : valV acc kv.1 with
      | none => rfl
      | some v =>
        have s := valV_any kv.1 acc
        rw [e] at s
        rw [Option.isSome_some, List.any_eq_true] at s
        obtain ⟨p, hp, e2⟩ := s
        rw [List.map_append, List.nodup_append] at h
        exact (h.2.2 p.1 (List.mem_map.mpr ⟨p, hp, rfl⟩) kv.1 (by simp) (of_decide_eq_true e2)).elim
    show mergeK (putK acc kv.1 kv.2) kvs = _
    rw [putK_new _ hn, merge_nodup kvs _ (by rw [List.append_assoc]; exact h), List.append_assoc]
    rfl
/-! ### data whose tuples have no attributes -/
mutual
inductive Fz (K : PySem.W.Frag) (H : Hp) : V → PyData → Prop
  | non : Fz K H .non .none
  | bl (b : Bool) : Fz K H (.bl b) (.bool b)
  | int (i : Int) : Fz K H (.int i) (.int i)
  | str (x : Str) : Fz K H (.str x) (.str x)
  | lst {a : Addr} {xs : List V} {ds : List PyData} : H a = some (.lst xs) → FzAll K H xs ds → Fz K H (.ref a) (.list ds)
  | tup {a : Addr} {xs : List V} {ds : List PyData} : Tz H a xs → FzAll K H xs ds → Fz K H (.ref a) (.tuple ds)
inductive FzAll (K : PySem.W.Frag) (H : Hp) : List V → List PyData → Prop
  | nil : FzAll K H [] []
  | cons {v : V} {vs : List V} {d : PyData} {ds : List PyData} : Fz K H v d → FzAll K H vs ds → FzAll K H (v :: vs) (d :: ds)
end
mutual
theorem Fz.dp {K : PySem.W.Frag} {H : Hp} : ∀ {d : PyData} {v : V}, Fz K H v d → Dp K H v d
  | _, _, .non => .non
  | _, _, .bl b => .bl b
  | _, _, .int i => .int i
  | _, _, .str x => .str x
  | _, _, .lst a b => .lst (SqL.of a) (FzAll.dp b)
  | _, _, .tup a b => .tup a.sq (FzAll.dp b)
theorem FzAll.dp {K : PySem.W.Frag} {H : Hp} : ∀ {ds : List PyData} {vs : List V}, FzAll K H vs ds → DpAll K H vs ds
  | _, _, .nil => .nil
  | _, _, .cons h t => .cons (Fz.dp h) (FzAll.dp t)
end
theorem Tz.same {H H' : Hp} (e : Same H H') {a : Addr} {xs : List V} (h : Tz H a xs) : Tz H' a xs := by
  obtain ⟨o, h, d⟩ := h
  exact ⟨o, e _ _ h, d⟩
mutual
/-- kept where all lists and tuples are -/
theorem Fz.keep {K : PySem.W.Frag} {H H' : Hp} (l : ∀ a xs, H a = some (.lst xs) → H' a = some (.lst xs)) (t : ∀ a xs, Tz H a xs → Tz H' a xs) : ∀ {d : PyData} {v : V}, Fz K H v d → Fz K H' v d
  | _, _, .non => .non
  | _, _, .bl b => .bl b
  | _, _, .int i => .int i
  | _, _, .str x => .str x
  | _, _, .lst a b => .lst (l _ _ a) (FzAll.keep l t b)
  | _, _, .tup a b => .tup (t _ _ a) (FzAll.keep l t b)
theorem FzAll.keep {K : PySem.W.Frag} {H H' : Hp} (l : ∀ a xs, H a = some (.lst xs) → H' a = some (.lst xs)) (t : ∀ a xs, Tz H a xs → Tz H' a xs) : ∀ {ds : List PyData} {vs : List V}, FzAll K H vs ds → FzAll K H' vs ds
  | _, _, .nil => .nil
  | _, _, .cons h r => .cons (Fz.keep l t h) (FzAll.keep l t r)
end
theorem Fz.same {K : PySem.W.Frag} {H H' : Hp} (e : Same H H') {d : PyData} {v : V} (h : Fz K H v d) : Fz K H' v d := h.keep (fun _ _ z => e _ _ z) fun _ _ z => z.same e
theorem FzAll.same {K : PySem.W.Frag} {H H' : Hp} (e : Same H H') {ds : List PyData} {vs : List V} (h : FzAll K H vs ds) : FzAll K H' vs ds := h.keep (fun _ _ z => e _ _ z) fun _ _ z => z.same e
theorem Fz.tupOf {K : PySem.W.Frag} {H : Hp} {x : V} {ds : List PyData} (h : Fz K H x (.tuple ds)) : ∃ a xs, x = .ref a ∧ Tz H a xs ∧ FzAll K H xs ds := by
  cases h with
  | tup a b => exact ⟨_, _, rfl, a, b⟩
theorem FzAll.get {K : PySem.W.Frag} {H : Hp} : ∀ {ds : List PyData} {vs : List V}, FzAll K H vs ds → ∀ {i : Nat} {d : PyData}, ds[i]? = some d → ∃ v, vs[i]? = some v ∧ Fz K H v d
  | _, _, .nil, i, d, h => by simp at h
  | _, _, .cons a t, 0, d, h => by
    simp only [List.getElem?_cons_zero, Option.some.injEq] at h
    subst h
    exact ⟨_, rfl, a⟩
  | _, _, .cons a t, i + 1, d, h => by
    simp only [List.getElem?_cons_succ] at h
    obtain ⟨v, e, q⟩ := FzAll.get t h
    exact ⟨v, by simpa using e, q⟩
theorem FzAll.two {K : PySem.W.Frag} {H : Hp} {xs : List V} {a b : PyData} (h : FzAll K H xs [a, b]) : ∃ u v, xs = [u, v] ∧ Fz K H u a ∧ Fz K H v b := by
  cases h with
  | cons ha t => cases t with
    | cons hb t => cases t; exact ⟨_, _, rfl, ha, hb⟩
theorem FzAll.len {K : PySem.W.Frag} {H : Hp} {ds : List PyData} {vs : List V} (h : FzAll K H vs ds) : vs.length = ds.length := DpAll.len h.dp
/-- steps as pairs of a dict -/
theorem steps_pairs {K : PySem.W.Frag} {H : Hp} {n : Nat} : ∀ {ss : List PyData} {ys : List V}, FzAll K H ys ss → ss.all (isStep n) = true → ∃ (ps : List Addr) (kvs : List (Key × V)), ys = ps.map V.ref ∧ Paired (fun p kv => SqT K H p [kV kv.1, kv.2]) ps kvs ∧
    kvs.map (·.1) = ss.map (fun s => (Sum.inr (wordOf s) : Key)) ∧ ∀ wd, match leadD ss wd with
      | none => valV kvs (Sum.inr wd : Key) = none
      | some g => ∃ v, valV kvs (Sum.inr wd : Key) = some v ∧ Fz K H v g
  | _, _, .nil, _ => ⟨[], [], rfl, .nil, rfl, fun wd => rfl⟩
  | _, _, .cons (d := d) (ds := ds) h t, ok => by
    rw [List.all_cons, Bool.and_eq_true] at ok
    obtain ⟨ps, kvs, e1, pr, e2, look⟩ := steps_pairs t ok.2
    obtain ⟨wz, g, rfl, _, hg⟩ := isStep_parts ok.1
    obtain ⟨a, xs, rfl, hx, al⟩ := h.tupOf
    obtain ⟨z1, z2, rfl, h1, h2⟩ := al.two
    obtain rfl : z1 = .str wz := by cases h1; rfl
    refine ⟨a :: ps, (Sum.inr wz, z2) :: kvs, by rw [e1]; rfl, .cons hx.sq pr, by rw [List.map_cons, List.map_cons, e2]; rfl, ?_⟩
    intro wd
    by_cases e : wz = wd
    · subst e
      have f : leadD (.tuple [.str wz, g] :: ds) wz = some g := by
        unfold leadD
        rw [List.find?_cons, show (wordOf (.tuple [.str wz, g]) == wz) = true from beq_self_eq_true wz]
        rfl
      rw [f]
      exact ⟨z2, valV_pos rfl, h2⟩
    · have f : leadD (.tuple [.str wz, g] :: ds) wd = leadD ds wd := by
        unfold leadD
        rw [List.find?_cons, show (wordOf (.tuple [.str wz, g]) == wd) = false from beq_eq_false_iff_ne.mpr e]
      rw [f]
      have q := look wd
      rw [valV_neg (fun z => e (Sum.inr.inj z))]
      exact q
end SG
namespace SG
open PySem PySem.Spec PyProof.Rows L2
def spBetween (K : PySem.W.Frag) : Sp := fun vs H Q _ => ∃ (x : V) (d : PyData) (lo hi : Int), vs = [x, .int lo, .int hi] ∧ Dp K H x d ∧ Q (.bl (bet d lo hi)) H
def spRow (K : PySem.W.Frag) : Sp := fun vs H Q _ => ∃ (x : V) (d : PyData) (n : Nat), vs = [x, .int n] ∧ Dp K H x d ∧ Q (.bl (rowN n d)) H
def spUnlike (K : PySem.W.Frag) : Sp := fun vs H Q _ => ∃ (l : Addr) (xs : List Str), vs = [.ref l] ∧ SqL K H l (xs.map V.str) ∧ xs.length ≤ 4000 ∧ Q (.bl (decide ((seen xs xs.length).length = xs.length))) H
theorem dec_nat {a b : Nat} : decide (V.int (a : Int) = V.int (b : Int)) = decide (a = b) := by
  rw [Bool.eq_iff_iff]
  simp
  omega
section
variable {P : Program} {w : World} {K : PySem.W.Frag} {mg : Str → Option Value} {base : Heap}
theorem ok_between (D : Df K mg "is_between" sis_between ["thing", "least", "most"]) (T : Txt K mg) : Cl P w K mg base 1 "is_between" (spBetween K) := by
  refine D.ok scis_between (fun vs H Q E h => ?_) (fun f cdv A outer s H vs Q E hr h => ?_)
  · obtain ⟨x, d, lo, hi, rfl, _⟩ := h
    rfl
  obtain ⟨x, d, lo, hi, rfl, hd, k⟩ := h
  refine ⟨_, -- return isinstance(thing, int) and (not isinstance(thing, bool)) and (least <= thing <= most)
    (pss_one (ps_ret (pe_and (pe_callB call_isInt (by rfl) T.m_isinstance (by decide +kernel) (pa_cons (pv 0) (pa_cons (pe_bltn (v := .ty "int") (u := .type "int") (by rfl) T.m_int (by decide +kernel) rfl) pa_nil))) (pe_and (pe_not (pe_callB call_isBool (by rfl) T.m_isinstance (by decide +kernel) (pa_cons (pv 0) (pa_cons (pe_bltn (v := .ty "bool") (u := .type "bool") (by rfl) T.m_bool (by decide +kernel) rfl) pa_nil)))) (pe_one (pe_chain op_le op_le (pv 1) (pv 0) (pv 2))))))), ?_⟩
  refine ⟨_, rfl, _, d, rfl, hd, _, rfl, ite2 (fun p => ?_) fun p => ?_⟩
  · refine ⟨_, rfl, _, d, rfl, hd, _, rfl, _, rfl, ite2 (fun q => ?_) fun q => ?_⟩
    · cases hd with
      | int i =>
        refine ⟨_, rfl, _, rfl, _, _, rfl, rfl, _, rfl, ite2 (fun r => ?_) fun r => ?_⟩
        · refine ⟨_, rfl, _, _, rfl, rfl, ?_⟩
          have e : bet (.int i) lo hi = decide (i ≤ hi) := by show (decide (lo ≤ i) && decide (i ≤ hi)) = _; rw [r]; rfl
          show Q (.bl (decide (i ≤ hi))) H
          rw [← e]; exact k
        · have e : bet (.int i) lo hi = false := by show (decide (lo ≤ i) && decide (i ≤ hi)) = _; rw [Bool.eq_false_iff.mpr r]; rfl
          rw [← e]; exact k
      | bl b => cases q
      | non => cases p
      | str s => cases p
      | lst a b => cases p
      | tup a b => cases p
    · have e : bet d lo hi = false := by cases hd <;> first | rfl | exact absurd rfl q
      rw [← e]; exact k
  · have e : bet d lo hi = false := by cases hd <;> first | rfl | exact absurd rfl p
    rw [← e]; exact k
theorem ok_row (D : Df K mg "is_row" sis_row ["thing", "many"]) (T : Txt K mg) : Cl P w K mg base 1 "is_row" (spRow K) := by
  refine D.ok scis_row (fun vs H Q E h => ?_) (fun f cdv A outer s H vs Q E hr h => ?_)
  · obtain ⟨x, d, n, rfl, _⟩ := h
    rfl
  obtain ⟨x, d, n, rfl, hd, k⟩ := h
  refine ⟨_, -- return isinstance(thing, tuple) and len(thing) == many
    (pss_one (ps_ret (pe_and (pe_callB call_isTup (by rfl) T.m_isinstance (by decide +kernel) (pa_cons (pv 0) (pa_cons (pe_bltn (v := .ty "tuple") (u := .type "tuple") (by rfl) T.m_tuple (by decide +kernel) rfl) pa_nil))) (pe_one (pe_cmpR op_eq (pe_callB call_len_seq (by rfl) T.m_len PySem.boot_len (pa_cons (pv 0) pa_nil)) (pv 1) (nomark _)))))), ?_⟩
  refine ⟨_, rfl, _, d, rfl, hd, _, rfl, ite2 (fun p => ?_) fun p => ?_⟩
  · cases hd with
    | @tup a xs ds sq al =>
      refine ⟨_, rfl, _, _, rfl, .inr sq, _, rfl, ?_⟩
      refine ⟨rfl, ?_⟩
      have k' : Q (.bl (decide (ds.length = n))) H := k
      rw [← DpAll.len al, ← dec_nat] at k'
      exact k'
    | bl b => cases p
    | non => cases p
    | str s => cases p
    | lst a b => cases p
    | int i => cases p
  · have e : rowN n d = false := by cases hd <;> first | rfl | exact absurd rfl p
    rw [e] at k; exact k
theorem ok_unlike (D : Df K mg "are_unlike" sare_unlike ["keys"]) (T : Txt K mg) : Cl P w K mg base 1 "are_unlike" (spUnlike K) := by
  refine D.ok scare_unlike (fun vs H Q E h => ?_) (fun f cdv A outer s H vs Q E hr h => ?_)
  · obtain ⟨l, xs, rfl, _⟩ := h
    rfl
  obtain ⟨l, xs, rfl, hl, few, k⟩ := h
  refine ⟨_, -- return len(set(keys)) == len(keys)
    (pss_one (ps_ret (pe_cmpR op_eq (pe_lenSetT rfl rfl T.m_len rfl T.m_set (pv 0)) (pe_callB call_len_seq (by rfl) T.m_len PySem.boot_len (pa_cons (pv 0) pa_nil)) (nomark _)))), ?_⟩
  refine ⟨_, rfl, _, xs, rfl, hl, few, _, rfl, _, _, rfl, .inl hl, ?_⟩
  refine ⟨rfl, ?_⟩
  rw [← dec_nat] at k
  show Q (.bl (decide (V.int _ = V.int _))) H
  rw [List.length_map]
  exact k
/-! ### a step -/
def spStep (K : PySem.W.Frag) : Sp := fun vs H Q _ => ∃ (x : V) (d : PyData) (n : Nat), vs = [x, .int n] ∧ Dp K H x d ∧ Q (.bl (isStep n d)) H
theorem ok_step (D : Df K mg "_is_step" s_is_step ["thing", "many"]) (T : Txt K mg) (cis_row : Cl P w K mg base 1 "is_row" (spRow K)) (cis_between : Cl P w K mg base 1 "is_between" (spBetween K)) : Cl P w K mg base 2 "_is_step" (spStep K) := by
  refine D.ok sc_is_step (fun vs H Q E h => ?_) (fun f cdv A outer s H vs Q E hr h => ?_)
  · obtain ⟨x, d, n, rfl, _⟩ := h
    rfl
  obtain ⟨x, d, n, rfl, hd, k⟩ := h
  obtain ⟨aSTEP_WORDS, mSTEP_WORDS, qW⟩ := T.mSTEP_WORDSx
  obtain ⟨aENDS, mENDS, qE⟩ := T.mENDSx
  refine ⟨_, -- if not is_row(thing, 2):
    (pss_cons (ps_if (pt_not (pt_val (pe_cl cis_row (hr.mono (by first | decide | omega)) rfl (pa_cons (pv 0) (pa_cons pe_int pa_nil)))))
      (pss_one (ps_ret pe_bl))
      pss_nil)
    (pss_cons (ps_asg (pv 0) (pg_tup rfl (pgs_cons (pg_name (i := 2) sc_is_step.nd rfl (Or.inl rfl)) (pgs_cons (pg_name (i := 3) sc_is_step.nd rfl (Or.inl rfl)) pgs_nil))))
    (pss_one (ps_ret (pe_and (pe_cmpR (op_inT (hin_of hr)) (pv 2) (pe_glob (v := .ref aSTEP_WORDS) rfl mSTEP_WORDS rfl) (by with_unfolding_all rfl)) (pe_one (pe_or (pe_cmpR (op_inT (hin_of hr)) (pv 3) (pe_glob (v := .ref aENDS) rfl mENDS rfl) (by with_unfolding_all rfl)) (pe_one (pe_cl cis_between (hr.mono (by first | decide | omega)) rfl (pa_cons (pv 3) (pa_cons pe_int (pa_cons (pe_op op_sub (pv 1) pe_int) pa_nil)))))))))))), ?_⟩
  refine ⟨_, rfl, x, d, 2, rfl, hd, _, rfl, ite2 (fun p => ?_) fun p => ?_⟩
  · have e : isStep n d = false := by
      cases h : isStep n d with
      | false => rfl
      | true => obtain ⟨a, b, rfl⟩ := isStep_two h; cases p
    rw [e] at k; exact k
  · obtain ⟨a, b, rfl⟩ := rowN_two (by simpa using p)
    obtain ⟨t, xs, rfl, hx, al⟩ := Dp.tupOf hd
    obtain ⟨u, v, rfl, ha, hb⟩ := DpAll.two al
    have W : Dp K H (.ref aSTEP_WORDS) (.tuple (wordsL.map PyData.str)) := .tup (qW H) (dp_strs wordsL)
    have E : Dp K H (.ref aENDS) (.tuple (endsL.map PyData.str)) := .tup (qE H) (dp_strs endsL)
    refine ⟨_, rfl, t, _, rfl, hx, rfl, _, _, rfl, _, _, rfl, rfl, ?_⟩
    refine ⟨_, rfl, _, _, ha, W, Dp.plain ha, rfl, Nat.zero_le _, _, rfl, ite2 (fun q => ?_) fun q => ?_⟩
    · have q' : inL wordsL a = true := by simpa [inL] using q
      refine ⟨_, rfl, _, _, hb, E, Dp.plain hb, rfl, Nat.zero_le _, _, rfl, ite2 (fun r => ?_) fun r => ?_⟩
      · have r' : inL endsL b = true := by simpa [inL] using r
        have e : isStep n (.tuple [a, b]) = true := by show (inL wordsL a && (inL endsL b || _)) = true; rw [q', r']; rfl
        rw [e] at k; exact k
      · have r' : inL endsL b = false := by simpa [inL] using r
        have e : isStep n (.tuple [a, b]) = bet b 0 ((n : Int) - 1) := by show (inL wordsL a && (inL endsL b || bet b 0 ((n : Int) - 1))) = _; rw [q', r']; rfl
        rw [e] at k
        exact ⟨_, rfl, _, rfl, _, _, rfl, rfl, v, b, 0, (n : Int) - 1, rfl, hb, k⟩
    · have q' : inL wordsL a = false := by simpa [inL] using q
      have e : isStep n (.tuple [a, b]) = false := by show (inL wordsL a && _) = false; rw [q']; rfl
      rw [e] at k; exact k
end
end SG
namespace SG
open PySem PySem.Spec PyProof.Rows L2
def spStepped (K : PySem.W.Frag) : Sp := fun vs H Q _ => ∃ (x : V) (sts : List PyData) (i : Nat) (wd : Str), vs = [x, .int i, .str wd] ∧ Dp K H x (.tuple sts) ∧ sts.all (isState sts.length) = true ∧ i < sts.length ∧
  ∀ H' v, Same H H' → Dp K H' v (stepD sts i wd) → Q v H'
section
variable {P : Program} {w : World} {K : PySem.W.Frag} {mg : Str → Option Value} {base : Heap}
theorem ok_stepped (D : Df K mg "stepped" sstepped ["machine", "state", "word"]) (T : Txt K mg) : Cl P w K mg base 1 "stepped" (spStepped K) := by
  refine D.ok scstepped (fun vs H Q E h => ?_) (fun f cdv A outer s H vs Q E hr h => ?_)
  · obtain ⟨x, sts, i, wd, rfl, _⟩ := h
    rfl
  obtain ⟨x, sts, i, wd, rfl, hd, ok, hi, k⟩ := h
  have hu := hu_of hr
  obtain ⟨t, xs, rfl, hx, al⟩ := Dp.tupOf hd
  have li := DpAll.len al
  have e1 : sts[i]? = some sts[i] := List.getElem?_eq_getElem hi
  obtain ⟨a, ss, es, oks⟩ := isState_two (List.all_eq_true.mp ok sts[i] (List.getElem_mem hi))
  obtain ⟨u, eu, hu1⟩ := DpAll.get al e1
  rw [es] at hu1
  obtain ⟨t2, xs2, rfl, hx2, al2⟩ := Dp.tupOf hu1
  obtain ⟨p, q, rfl, hp, hq⟩ := DpAll.two al2
  obtain ⟨t3, ys, rfl, hx3, al3⟩ := Dp.tupOf hq
  have lys := DpAll.len al3
  have sts_ss : stepsOf (sts.getD i .none) = ss := by
    rw [List.getD_eq_getElem?_getD, e1, es]; rfl
  refine ⟨_, -- steps = machine[state][1] if 0 <= state < len(machine) else ()
    (pss_cons (ps_set (i := 3) scstepped.nd rfl (Or.inl rfl) (pe_ifExp (pt_chain op_le op_lt pe_int (pv 1) (pe_callB call_len_seq (by rfl) T.m_len PySem.boot_len (pa_cons (pv 0) pa_nil))) (pe_ix ix_tup (pe_ix ix_tup (pv 0) (pv 1) (fun _ _ => rfl)) pe_int (fun _ _ => rfl)) (pe_tupF pa_nil)))
    (pss_cons (ps_for PassesOwn.never rfl (pi_tup (pv 3)) (pg_tup rfl (pgs_cons (pg_name (i := 4) scstepped.nd rfl (Or.inl rfl)) (pgs_cons (pg_name (i := 5) scstepped.nd rfl (Or.inl rfl)) pgs_nil)))
      (pss_one (ps_if (pt_cmpR op_eq (pv 4) (pv 2) (nomark _))
        (pss_one (ps_ret (pv 5)))
        pss_nil)))
    (pss_one (ps_ret (pe_ifExp (pt_cmpR op_in_seq (pv 2) (pe_tupF (pa_cons pe_str (pa_cons pe_str pa_nil))) (by with_unfolding_all rfl)) pe_str pe_non))))), ?_⟩
  refine ⟨_, rfl, _, _, rfl, rfl, _, rfl, ?_⟩
  refine ite2 (fun _ => ?_) (fun z => absurd (by simp) z)
  refine ⟨_, rfl, _, _, rfl, .inr hx, _, _, rfl, rfl, _, rfl, ?_⟩
  refine ite2 (fun _ => ?_) (fun z => absurd (by simp; omega) z)
  refine ⟨_, rfl, _, rfl, t, xs, i, .ref t2, rfl, rfl, hx, atI_nat eu, t2, _, 1, .ref t3, rfl, rfl, hx2, atI_nat (j := 1) rfl, ?_⟩
  refine ⟨_, rfl, t3, rfl, ⟨_, hx3⟩, for_tup (K := K) (a := t3) (xs := ys) (fun j σ Hx => ∃ k4 k5 : Option V, σ = [some (.ref t), some (.int i), some (.str wd), some (.ref t3), k4, k5] ∧ Hx = H ∧ (ss.take j).find? (fun s => wordOf s == wd) = none) ?_ ?_ ?_ ?_⟩
  · exact ⟨none, none, rfl, rfl, rfl⟩
  · rintro j σ Hx _ ⟨_, _, _, rfl, _⟩
    exact hx3
  · rintro j v σ Hx hj ⟨k4, k5, rfl, rfl, no⟩
    have hjl := (List.getElem?_eq_some_iff.mp hj).1
    have hjs : j < ss.length := by omega
    have e2 : ss[j]? = some ss[j] := List.getElem?_eq_getElem hjs
    obtain ⟨wz, g, eg, hwz, hg⟩ := isStep_parts (List.all_eq_true.mp oks ss[j] (List.getElem_mem hjs))
    obtain ⟨v', ev, hv⟩ := DpAll.get al3 e2
    rw [hj] at ev
    obtain rfl := Option.some.inj ev
    rw [eg] at hv
    obtain ⟨t4, zs, rfl, hx4, al4⟩ := Dp.tupOf hv
    obtain ⟨y1, y2, rfl, h1, h2⟩ := DpAll.two al4
    obtain rfl : y1 = .str wz := by cases h1; rfl
    refine ⟨t4, _, rfl, hx4, rfl, _, _, rfl, _, _, rfl, rfl, ?_⟩
    refine ⟨_, rfl, _, rfl, rfl, ?_⟩
    refine ⟨_, rfl, ite2 (fun r => ?_) fun r => ?_⟩
    · have r' : wz = wd := by
        have := of_decide_eq_true r
        cases this; rfl
      have fd := find_at (p := fun s => wordOf s == wd) no e2 (by rw [eg]; simp [wordOf, r'])
      have e3 : stepD sts i wd = g := by
        unfold stepD leadD
        rw [sts_ss, fd, eg]; rfl
      exact ⟨_, rfl, k Hx y2 (Same.refl _) (by rw [e3]; exact h2)⟩
    · have r' : ¬ wz = wd := fun z => r (by rw [z]; exact decide_eq_true rfl)
      exact ⟨_, _, rfl, rfl, find_no no e2 (by rw [eg]; simpa [wordOf] using r')⟩
  · rintro σ Hx ⟨k4, k5, rfl, rfl, no⟩
    rw [lys, List.take_length] at no
    have e3 : stepD sts i wd = if wd = "out" ∨ wd = "up" then .str "give" else .none := by
      unfold stepD leadD
      rw [sts_ss, no]; rfl
    refine ⟨_, rfl, (by show 2 ≤ sizeLine; decide), fun p o p0 _ => ?_⟩
    generalize hH : upd Hx p (.frz o (.tup [.str "out", .str "up"])) = H1
    have sm : Same Hx H1 := by rw [← hH]; exact same_new p0
    have at1 : SqT K H1 p [.str "out", .str "up"] := .inl (.inr ⟨o, by rw [← hH]; exact upd_same⟩)
    refine ⟨p, _, rfl, .inr at1, rfl, rfl, _, rfl, ite2 (fun r => ?_) fun r => ?_⟩
    · have r' : wd = "out" ∨ wd = "up" := by
        have z : (("out" : Str) == wd || (("up" : Str) == wd || false)) = true := r
        rw [Bool.or_false, Bool.or_eq_true] at z
        exact z.imp (fun z => (eq_of_beq z).symm) fun z => (eq_of_beq z).symm
      exact k H1 _ sm (by rw [e3, if_pos r']; exact .str _)
    · have r' : ¬ (wd = "out" ∨ wd = "up") := by
        intro z
        refine r ?_
        show (("out" : Str) == wd || (("up" : Str) == wd || false)) = true
        rcases z with rfl | rfl <;> decide
      exact k H1 _ sm (by rw [e3, if_neg r']; exact .non)
end
end SG
namespace SG
open PySem PySem.Spec PyProof.Rows L2
def spState (K : PySem.W.Frag) : Sp := fun vs H Q _ => ∃ (x : V) (d : PyData) (n : Nat), vs = [x, .int n] ∧ Dp K H x d ∧ wt d ≤ 48000 ∧ ∀ H', Same H H' → Q (.bl (isState n d)) H'
section
variable {P : Program} {w : World} {K : PySem.W.Frag} {mg : Str → Option Value} {base : Heap}
theorem ok_state (D : Df K mg "_is_state" s_is_state ["thing", "many"]) (T : Txt K mg) (cis_row : Cl P w K mg base 1 "is_row" (spRow K)) (cis_between : Cl P w K mg base 1 "is_between" (spBetween K))
    (care_unlike : Cl P w K mg base 1 "are_unlike" (spUnlike K)) (c_is_step : Cl P w K mg base 2 "_is_step" (spStep K)) : Cl P w K mg base 3 "_is_state" (spState K) := by
  refine D.ok sc_is_state (fun vs H Q E h => ?_) (fun f cdv A outer s H vs Q E hr h => ?_)
  · obtain ⟨x, d, n, rfl, _⟩ := h
    rfl
  obtain ⟨x, d, n, rfl, hd, sz, k⟩ := h
  obtain ⟨_, mLONGEST_WAIT⟩ := T.mLONGEST_WAITx
  refine ⟨_, -- if not is_row(thing, 2):
    (pss_cons (ps_if (pt_not (pt_val (pe_cl cis_row (hr.mono (by first | decide | omega)) rfl (pa_cons (pv 0) (pa_cons pe_int pa_nil)))))
      (pss_one (ps_ret pe_bl))
      pss_nil)
    (pss_cons (ps_asg (pv 0) (pg_tup rfl (pgs_cons (pg_name (i := 2) sc_is_state.nd rfl (Or.inl rfl)) (pgs_cons (pg_name (i := 3) sc_is_state.nd rfl (Or.inl rfl)) pgs_nil))))
    (C8.pss_cut (ps_if (PW.pt (pw_and (pt_cmp (pc_notN (pv 2))) (pw_and1 (pt_not (pt_val (pe_cl cis_between (hr.mono (by first | decide | omega)) rfl (pa_cons (pv 2) (pa_cons pe_int (pa_cons (pe_glob (v := .int 10000) rfl mLONGEST_WAIT ⟨_, rfl⟩) pa_nil)))))))))
      (pss_one (ps_ret pe_bl))
      pss_nil)
    (C8.pss_cut (ps_if (PW.pt (pw_or (pt_not (pt_val (pe_callB call_isTup (by rfl) T.m_isinstance (by decide +kernel) (pa_cons (pv 3) (pa_cons (pe_bltn (v := .ty "tuple") (u := .type "tuple") (by rfl) T.m_tuple (by decide +kernel) rfl) pa_nil))))) (pw_or1 (pt_not (pt_val (pe_callB (cr_all rfl) (by rfl) T.m_all (by decide +kernel) (pa_cons (pe_lc (own := [("step", 5)]) rfl sc_is_state.nd (pi_tup (pv 3)) (blkOk_by (N := N_is_state) (sc := defScope s_is_state) (by decide +kernel)) (fun _ _ _ _ _ => (pg_name (i := 5) sc_is_state.nd rfl (Or.inl rfl))) (fun _ _ _ _ _ => pts_nil) (fun _ _ _ _ _ => (pe_cl c_is_step (hr.mono (by first | decide | omega)) rfl (pa_cons (pv 5) (pa_cons (pv 1) pa_nil))))) pa_nil)))))))
      (pss_one (ps_ret pe_bl))
      pss_nil)
    (pss_cons (ps_setLc (i := 4) (own := [("step", 5)]) rfl sc_is_state.nd rfl rfl (sw_true rfl rfl rfl (by decide +kernel)) (pi_tup (pv 3)) (blkOk_by (N := N_is_state) (sc := defScope s_is_state) (by decide +kernel)) (fun _ _ _ _ _ => (pg_name (i := 5) sc_is_state.nd rfl (Or.inl rfl))) (fun _ _ _ _ _ => pts_nil) (fun _ _ _ _ _ => (pe_ix (r := rIxT K) ix_tup (pv 5) pe_int (fun _ _ => rfl))))
    (pss_one (ps_ret (pe_and (pe_cl care_unlike (hr.mono (by first | decide | omega)) rfl (pa_cons (pv 4) pa_nil)) (pe_one (pe_cmpR op_eq (pe_cmpR op_in_seq pe_str (pv 4) (by with_unfolding_all rfl)) (pe_cmp (pc_notN (pv 2))) (nomark _))))))))))), ?_⟩
  refine ⟨_, rfl, x, d, 2, rfl, hd, _, rfl, ite2 (fun p => ?_) fun p => ?_⟩
  · have e : isState n d = false := by
      cases h : isState n d with
      | false => rfl
      | true => obtain ⟨a, b, rfl, _⟩ := isState_two h; cases p
    have k' := k H (Same.refl _)
    rw [e] at k'; exact k'
  obtain ⟨a, b, rfl⟩ := rowN_two (by simpa using p)
  obtain ⟨t, xs, rfl, hx, al⟩ := Dp.tupOf hd
  obtain ⟨u, v, rfl, ha, hb⟩ := DpAll.two al
  refine ⟨_, rfl, t, _, rfl, hx, rfl, _, _, rfl, _, _, rfl, rfl, ?_⟩
  refine ⟨fun σ Hx => σ = [some (.ref t), some (.int n), some u, some v, none, none] ∧ Hx = H ∧ (SG.isNon a || bet a 1 10000) = true, ?_, ?_⟩
  · refine ⟨_, rfl, _, rfl, ite2 (fun q => ?_) fun q => ?_⟩
    · refine ⟨_, rfl, u, a, 1, 10000, rfl, ha, _, rfl, ite2 (fun r => ?_) fun r => ?_⟩
      · have nn : SG.isNon a = false := by rw [← Dp.isNon ha]; simpa using q
        have e := isState_wait (n := n) (b := b) (show (SG.isNon a || bet a 1 10000) = false by rw [nn]; simpa using r)
        have k' := k H (Same.refl _)
        rw [e] at k'; exact k'
      · exact ⟨rfl, rfl, by rw [Bool.or_eq_true]; exact .inr (by simpa using r)⟩
    · have nn : SG.isNon a = true := by rw [← Dp.isNon ha]; simpa using q
      exact ite2 (fun z => by cases z) fun _ => ⟨rfl, rfl, by rw [nn]; rfl⟩
  rintro σ Hx ⟨rfl, rfl, oka⟩
  refine ⟨fun σ H1 => ∃ (ss : List PyData) (t3 : Addr) (ys : List V), b = .tuple ss ∧ v = .ref t3 ∧ σ = [some (.ref t), some (.int n), some u, some v, none, none] ∧ Same Hx H1 ∧ SqT K Hx t3 ys ∧ DpAll K Hx ys ss ∧ ss.all (isStep n) = true, ?_, ?_⟩
  · refine ⟨_, rfl, v, b, rfl, hb, _, rfl, ite2 (fun q => ?_) fun q => ?_⟩
    · have e := isState_tup (n := n) (a := a) (show b.isTuple = false by simpa using q)
      have k' := k Hx (Same.refl _)
      rw [e] at k'
      exact ite2 (fun _ => k') fun z => absurd rfl z
    · obtain ⟨ss, rfl⟩ : ∃ ss, b = .tuple ss := by
        cases hb <;> first | exact ⟨_, rfl⟩ | exact absurd rfl q
      obtain ⟨t3, ys, rfl, hx3, al3⟩ := Dp.tupOf hb
      have lys := DpAll.len al3
      have few : 12 * ss.length ≤ 48000 := by
        have := wtAll_len ss
        simp only [wt, wtAll] at sz
        omega
      refine ⟨_, rfl, t3, rfl, ⟨_, hx3⟩, ?_⟩
      intro dd dd0
      refine lc_mapT (K := K) (xs := ys) (fun i => .bl (isStep n (ss.getD i .none))) hx3 dd0 (by omega) ?_ ?_
      · intro j y Hy N O hj sy kk
        have hjl := (List.getElem?_eq_some_iff.mp hj).1
        have e2 : ss[j]? = some ss[j] := List.getElem?_eq_getElem (by omega)
        obtain ⟨v', ev, hv⟩ := DpAll.get al3 e2
        rw [hj] at ev
        obtain rfl := Option.some.inj ev
        have ed : ss.getD j .none = ss[j] := by rw [List.getD_eq_getElem?_getD, e2]; rfl
        rw [ed] at kk
        refine ⟨rfl, ?_⟩
        exact ⟨_, rfl, _, rfl, y, ss[j], n, rfl, Dp.same sy hv, kk Hy (Same.refl _)⟩
      · intro Hy sy hD
        have hD' : Hy dd = some (.lst ((ss.map (isStep n)).map V.bl)) := by
          rw [hD, lys, map_range_get (f := fun s => V.bl (isStep n s)), List.map_map]; rfl
        refine ⟨_, _, rfl, SqL.of hD', _, rfl, ite2 (fun r => ?_) fun r => ?_⟩
        · have e := isState_all (n := n) (a := a) (ss := ss) (by simpa [List.all_map] using r)
          have k' := k Hy sy
          rw [e] at k'
          exact k'
        · exact ⟨ss, t3, ys, rfl, rfl, rfl, sy, hx3, al3, by simpa [List.all_map] using r⟩
  rintro σ H1 ⟨ss, t3, ys, rfl, rfl, rfl, s1, hx3, al3, oks⟩
  have lys := DpAll.len al3
  have few : 12 * ss.length ≤ 48000 := by
    have := wtAll_len ss
    simp only [wt, wtAll] at sz
    omega
  refine ⟨_, rfl, t3, rfl, ⟨_, same_sqT s1 hx3⟩, ?_⟩
  intro dd dd0
  refine lc_mapT (K := K) (xs := ys) (fun i => .str (wordOf (ss.getD i .none))) (same_sqT s1 hx3) dd0 (by omega) ?_ ?_
  · intro j y Hy N O hj sy kk
    have hjl := (List.getElem?_eq_some_iff.mp hj).1
    have hjs : j < ss.length := by omega
    have e2 : ss[j]? = some ss[j] := List.getElem?_eq_getElem hjs
    obtain ⟨wz, g, eg, hwz, hg⟩ := isStep_parts (List.all_eq_true.mp oks ss[j] (List.getElem_mem hjs))
    obtain ⟨v', ev, hv⟩ := DpAll.get al3 e2
    rw [hj] at ev
    obtain rfl := Option.some.inj ev
    have ed : ss.getD j .none = .tuple [.str wz, g] := by rw [List.getD_eq_getElem?_getD, e2, eg]; rfl
    rw [ed] at kk
    rw [eg] at hv
    obtain ⟨t4, zs, rfl, hx4, al4⟩ := Dp.tupOf hv
    obtain ⟨y1, y2, rfl, h1, h2⟩ := DpAll.two al4
    obtain rfl : y1 = .str wz := by cases h1; rfl
    refine ⟨rfl, ?_⟩
    exact ⟨_, rfl, t4, _, 0, .str wz, rfl, rfl, same_sqT (s1.trans sy) hx4, atI_nat (j := 0) rfl, kk Hy (Same.refl _)⟩
  · intro Hy sy hD
    have hD' : Hy dd = some (.lst ((ss.map wordOf).map V.str)) := by
      rw [hD, lys, map_range_get (f := fun s => V.str (wordOf s)), List.map_map]; rfl
    have ks := k Hy (s1.trans sy)
    rw [isState_eq, oka, Bool.true_and] at ks
    unfold isSteps at ks
    rw [oks, Bool.true_and] at ks
    refine ⟨_, rfl, dd, ss.map wordOf, rfl, SqL.of hD', by rw [List.length_map]; omega, _, rfl, ite2 (fun r => ?_) fun r => ?_⟩
    · rw [List.length_map] at r
      rw [r, Bool.true_and] at ks
      refine ⟨_, rfl, dd, _, rfl, .inl (SqL.of hD'), rfl, ?_, _, rfl, ?_⟩
      · rw [List.all_map, List.all_eq_true]
        intro z _
        rfl
      refine ⟨rfl, ?_⟩
      rw [← inV_strs, ← Dp.isNon ha, ← dec_bl] at ks
      exact ks
    · rw [List.length_map] at r
      rw [Bool.eq_false_iff.mpr r, Bool.false_and] at ks
      exact ks
end
end SG
namespace SG
open PySem PySem.Spec PyProof.Rows L2
def spWaits (K : PySem.W.Frag) : Sp := fun vs H Q _ => ∃ (x : V) (sts : List PyData) (i : Nat), vs = [x, .int i] ∧ Dp K H x (.tuple sts) ∧ sts.all (isState sts.length) = true ∧ i < sts.length ∧ sts.length ≤ 8 ∧
  ∀ H', Same H H' → Q (.bl (runF sts sts.length i).isSome) H'
def spMach (K : PySem.W.Frag) : Sp := fun vs H Q _ => ∃ (x : V) (d : PyData), vs = [x] ∧ Dp K H x d ∧ wt d ≤ 48000 ∧ ∀ H', Same H H' → Q (.bl (isMach d)) H'
section
variable {P : Program} {w : World} {K : PySem.W.Frag} {mg : Str → Option Value} {base : Heap}
theorem ok_waits (D : Df K mg "_waits_on" s_waits_on ["machine", "state"]) (T : Txt K mg) (cstepped : Cl P w K mg base 1 "stepped" (spStepped K)) : Cl P w K mg base 2 "_waits_on" (spWaits K) := by
  refine D.ok sc_waits_on (fun vs H Q E h => ?_) (fun f cdv A outer s H vs Q E hr h => ?_)
  · obtain ⟨x, sts, i, rfl, _⟩ := h
    rfl
  obtain ⟨x, sts, i, rfl, hd, ok, hi, h8, k⟩ := h
  obtain ⟨t, xs, rfl, hx, al⟩ := Dp.tupOf hd
  have lxs := DpAll.len al
  have en : ((xs.length : Int)).toNat = sts.length := by omega
  obtain ⟨aENDS, mENDS, qE⟩ := T.mENDSx
  refine ⟨_, -- for _ in range(len(machine)):
    (pss_cons (ps_for PassesOwn.never rfl (pi_range1 rfl T.m_range (pa_cons (pe_callB call_len_seq (by rfl) T.m_len PySem.boot_len (pa_cons (pv 0) pa_nil)) pa_nil)) (pg_name (i := 2) sc_waits_on.nd rfl (Or.inl rfl))
      (pss_cons (ps_set (i := 1) sc_waits_on.nd rfl (Or.inl rfl) (pe_cl cstepped (hr.mono (by first | decide | omega)) rfl (pa_cons (pv 0) (pa_cons (pv 1) (pa_cons pe_str pa_nil)))))
      (pss_one (ps_if (PW.pt (pw_or (pt_cmp (pc_isN (pv 1))) (pw_or1 (pt_cmpR (op_inT (hin_of hr)) (pv 1) (pe_glob (v := .ref aENDS) rfl mENDS rfl) (by with_unfolding_all rfl)))))
        (pss_one (ps_ret pe_bl))
        pss_nil))))
    (pss_one (ps_ret pe_bl))), ?_⟩
  refine ⟨_, rfl, _, _, rfl, .inr hx, _, rfl, by omega, by omega, ?_⟩
  rw [en]
  refine for_range (lo := 0) (n := sts.length) (fun j σ Hx => ∃ (c : Nat) (k2 : Option V), σ = [some (.ref t), some (.int c), k2] ∧ Same H Hx ∧ c < sts.length ∧ runF sts j i = some c) ⟨i, none, rfl, Same.refl _, hi, rfl⟩ ?_ ?_
  · rintro j σ Hx hj ⟨c, k2, rfl, sx, hc, run⟩
    refine ⟨_, rfl, _, rfl, .ref t, sts, c, "wait", rfl, Dp.same sx hd, ok, hc, ?_⟩
    intro Hy v sy hv
    have end_ : nextW sts c = none → runF sts sts.length i = none := by
      intro z
      have h1 : runF sts (j + 1) i = none := by show (runF sts j i).bind (nextW sts) = none; rw [run]; exact z
      exact runF_none h1 (by omega)
    have E : Dp K Hy (.ref aENDS) (.tuple (endsL.map PyData.str)) := .tup (qE Hy) (dp_strs endsL)
    have stop : nextW sts c = none → Q (.bl false) Hy := by
      intro z
      have kk := k Hy (sx.trans sy)
      rw [end_ z] at kk
      exact kk
    rcases stepD_wait ok hc with e | ⟨s, hs, e⟩ | ⟨m, hm, e⟩
    · rw [e] at hv
      obtain rfl : v = .non := by cases hv; rfl
      refine ⟨_, rfl, _, rfl, ite2 (fun q => ?_) fun q => absurd rfl q⟩
      exact ite2 (fun _ => stop (by unfold nextW; rw [e])) fun z => absurd rfl z
    · rw [e] at hv
      obtain rfl : v = .str s := by cases hv; rfl
      refine ⟨_, rfl, _, rfl, ite2 (fun q => ?_) fun q => ?_⟩
      · cases of_decide_eq_true q
      · refine ⟨_, rfl, .str s, endsL.map PyData.str, hv, E, rfl, rfl, Nat.zero_le _, _, rfl, ite2 (fun r => ?_) fun r => ?_⟩
        · exact stop (by unfold nextW; rw [e])
        · exact absurd (show (false ^^ inL endsL (.str s)) = true by rw [inL_of hs]; rfl) r
    · rw [e] at hv
      obtain rfl : v = .int m := by cases hv; rfl
      refine ⟨_, rfl, _, rfl, ite2 (fun q => ?_) fun q => ?_⟩
      · cases of_decide_eq_true q
      · refine ⟨_, rfl, .int m, endsL.map PyData.str, hv, E, rfl, rfl, Nat.zero_le _, _, rfl, ite2 (fun r => ?_) fun r => ?_⟩
        · cases r
        · refine ⟨m, _, rfl, sx.trans sy, hm, ?_⟩
          show (runF sts j i).bind (nextW sts) = some m
          rw [run]
          show nextW sts c = some m
          unfold nextW
          rw [e]
          rfl
  · rintro σ Hx ⟨c, k2, rfl, sx, hc, run⟩
    have kk := k Hx sx
    rw [run] at kk
    exact kk
theorem ok_mach (D : Df K mg "is_machine" sis_machine ["thing"]) (T : Txt K mg) (c_is_state : Cl P w K mg base 3 "_is_state" (spState K)) (c_waits_on : Cl P w K mg base 2 "_waits_on" (spWaits K)) : Cl P w K mg base 4 "is_machine" (spMach K) := by
  refine D.ok scis_machine (fun vs H Q E h => ?_) (fun f cdv A outer s H vs Q E hr h => ?_)
  · obtain ⟨x, d, rfl, _⟩ := h
    rfl
  obtain ⟨x, d, rfl, hd, sz, k⟩ := h
  obtain ⟨_, mMOST_STATES⟩ := T.mMOST_STATESx
  refine ⟨_, -- if not isinstance(thing, tuple) or not 1 <= len(thing) <= MOST_STATES:
    (C8.pss_cut (ps_if (PW.pt (pw_or (pt_not (pt_val (pe_callB call_isTup (by rfl) T.m_isinstance (by decide +kernel) (pa_cons (pv 0) (pa_cons (pe_bltn (v := .ty "tuple") (u := .type "tuple") (by rfl) T.m_tuple (by decide +kernel) rfl) pa_nil))))) (pw_or1 (pt_not (pt_chain op_le op_le pe_int (pe_callB call_len_seq (by rfl) T.m_len PySem.boot_len (pa_cons (pv 0) pa_nil)) (pe_glob (v := .int 8) rfl mMOST_STATES ⟨_, rfl⟩))))))
      (pss_one (ps_ret pe_bl))
      pss_nil)
    (C8.pss_cut (ps_if (pt_not (pt_val (pe_callB (cr_all rfl) (by rfl) T.m_all (by decide +kernel) (pa_cons (pe_lc (own := [("state", 1)]) rfl scis_machine.nd (pi_tup (pv 0)) (blkOk_by (N := Nis_machine) (sc := defScope sis_machine) (by decide +kernel)) (fun _ _ _ _ _ => (pg_name (i := 1) scis_machine.nd rfl (Or.inl rfl))) (fun _ _ _ _ _ => pts_nil) (fun _ _ _ _ _ => (pe_cl c_is_state (hr.mono (by first | decide | omega)) rfl (pa_cons (pv 1) (pa_cons (pe_callB (r := rLenSq K) call_len_seq (by rfl) T.m_len PySem.boot_len (pa_cons (pv 0) pa_nil)) pa_nil))))) pa_nil))))
      (pss_one (ps_ret pe_bl))
      pss_nil)
    (pss_one (ps_ret (pe_not (pe_callB (cr_any rfl) (by rfl) T.m_any (by decide +kernel) (pa_cons (pe_lc (own := [("state", 1)]) rfl scis_machine.nd (pi_range1 rfl T.m_range (pa_cons (pe_callB call_len_seq (by rfl) T.m_len PySem.boot_len (pa_cons (pv 0) pa_nil)) pa_nil)) (blkOk_by (N := Nis_machine) (sc := defScope sis_machine) (by decide +kernel)) (fun _ _ _ _ _ => (pg_name (i := 1) scis_machine.nd rfl (Or.inl rfl))) (fun _ _ _ _ _ => pts_nil) (fun _ _ _ _ _ => (pe_cl c_waits_on (hr.mono (by first | decide | omega)) rfl (pa_cons (pv 0) (pa_cons (pv 1) pa_nil))))) pa_nil))))))), ?_⟩
  refine ⟨fun σ Hx => σ = [some x, none] ∧ Hx = H ∧ ∃ sts, d = .tuple sts ∧ 1 ≤ sts.length ∧ sts.length ≤ 8, ?_, ?_⟩
  · refine ⟨_, rfl, x, d, rfl, hd, _, rfl, ite2 (fun q => ?_) fun q => ?_⟩
    · have e : isMach d = false := by cases hd <;> first | rfl | cases q
      have kk := k H (Same.refl _)
      rw [e] at kk
      exact ite2 (fun _ => kk) fun z => absurd rfl z
    · obtain ⟨sts, rfl⟩ : ∃ ss, d = .tuple ss := by
        cases hd <;> first | exact ⟨_, rfl⟩ | exact absurd rfl q
      obtain ⟨t, xs, rfl, hx, al⟩ := Dp.tupOf hd
      have lxs := DpAll.len al
      have out : ¬ (1 ≤ sts.length ∧ sts.length ≤ 8) → Q (.bl false) H := by
        intro z
        have kk := k H (Same.refl _)
        rw [isMach_len z] at kk
        exact kk
      refine ⟨_, rfl, _, _, rfl, .inr hx, _, _, rfl, rfl, _, rfl, ite2 (fun a => ?_) fun a => ?_⟩
      · have a' : 1 ≤ sts.length := by have := of_decide_eq_true a; omega
        refine ⟨_, _, rfl, rfl, _, rfl, ite2 (fun b => ?_) fun b => ?_⟩
        · refine out fun z => ?_
          have := of_decide_eq_false (show decide ((xs.length : Int) ≤ 8) = false by simpa using b)
          omega
        · refine ⟨rfl, rfl, sts, rfl, a', ?_⟩
          have := of_decide_eq_true (show decide ((xs.length : Int) ≤ 8) = true by simpa using b)
          omega
      · refine ⟨_, rfl, ite2 (fun b => ?_) fun b => absurd rfl b⟩
        refine out fun z => ?_
        have := of_decide_eq_false (Bool.eq_false_iff.mpr a)
        omega
  rintro σ Hx ⟨rfl, rfl, sts, rfl, l1, l8⟩
  obtain ⟨t, xs, rfl, hx, al⟩ := Dp.tupOf hd
  have lxs := DpAll.len al
  have few : xs.length < 100000 := by omega
  refine ⟨fun σ Hy => σ = [some (.ref t), none] ∧ Same Hx Hy ∧ sts.all (isState sts.length) = true, ?_, ?_⟩
  · refine ⟨_, rfl, t, rfl, ⟨_, hx⟩, ?_⟩
    intro dd dd0
    refine lc_mapT (K := K) (xs := xs) (fun i => .bl (isState sts.length (sts.getD i .none))) hx dd0 few ?_ ?_
    · intro j y Hy N O hj sy kk
      have hjl := (List.getElem?_eq_some_iff.mp hj).1
      have e2 : sts[j]? = some sts[j] := List.getElem?_eq_getElem (by omega)
      obtain ⟨v', ev, hv⟩ := DpAll.get al e2
      rw [hj] at ev
      obtain rfl := Option.some.inj ev
      have ed : sts.getD j .none = sts[j] := by rw [List.getD_eq_getElem?_getD, e2]; rfl
      rw [ed] at kk
      refine ⟨rfl, ?_⟩
      refine ⟨_, rfl, _, rfl, _, _, rfl, .inr (same_sqT sy hx), y, sts[j], sts.length, by rw [lxs]; rfl, Dp.same sy hv, ?_, ?_⟩
      · have := wtAll_mem (List.getElem_mem (show j < sts.length by omega))
        simp only [wt] at sz
        omega
      · intro Hz sz'
        exact kk Hz sz'
    · intro Hy sy hD
      have hD' : Hy dd = some (.lst ((sts.map (isState sts.length)).map V.bl)) := by
        rw [hD, lxs, map_range_get (f := fun s => V.bl (isState sts.length s)), List.map_map]; rfl
      refine ⟨_, _, rfl, SqL.of hD', _, rfl, ite2 (fun r => ?_) fun r => ?_⟩
      · have e := isMach_all (sts := sts) (by simpa [List.all_map] using r)
        have kk := k Hy sy
        rw [e] at kk
        exact kk
      · exact ⟨rfl, sy, by simpa [List.all_map] using r⟩
  rintro σ Hy ⟨rfl, sy, ok⟩
  have en : ((xs.length : Int)).toNat = sts.length := by omega
  refine ⟨_, rfl, _, _, rfl, .inr (same_sqT sy hx), _, rfl, by omega, by omega, ?_⟩
  rw [en]
  intro dd dd0
  refine lc_mapR (lo := 0) (n := sts.length) (fun i => .bl (runF sts sts.length i).isSome) dd0 (by omega) ?_ ?_
  · intro j Hz N O hj sz2 kk
    refine ⟨rfl, ?_⟩
    refine ⟨_, rfl, _, rfl, .ref t, sts, j, by rw [Int.zero_add]; rfl, Dp.same (sy.trans sz2) hd, ok, hj, l8, ?_⟩
    intro Hw sw
    exact kk Hw sw
  · intro Hz sz2 hD
    have hD' : Hz dd = some (.lst (((List.range sts.length).map fun i => (runF sts sts.length i).isSome).map V.bl)) := by
      rw [hD, List.map_map]; rfl
    have kk := k Hz (sy.trans sz2)
    rw [isMach_eq l1 l8 ok] at kk
    refine ⟨_, _, rfl, SqL.of hD', _, rfl, ?_⟩
    simpa [List.any_map] using kk
end
end SG
namespace SG
open PySem PySem.Spec PyProof.Rows L2
/-! ### the law's own look at goals and states -/
def spGoal (K : PySem.W.Frag) : Sp := fun vs H Q _ => ∃ (x : V) (d : PyData) (n : Nat), vs = [x, .int n] ∧ Dp K H x d ∧ ∀ H', Same H H' → Q (.bl (isG n d)) H'
section
variable {P : Program} {w : World} {K : PySem.W.Frag} {mg : Str → Option Value} {base : Heap}
theorem ok_goal (D : Df K mg "_law_is_goal" s_law_is_goal ["_law_thing", "_law_many"]) (T : Txt K mg) : Cl P w K mg base 1 "_law_is_goal" (spGoal K) := by
  refine D.ok sc_law_is_goal (fun vs H Q E h => ?_) (fun f cdv A outer s H vs Q E hr h => ?_)
  · obtain ⟨x, d, n, rfl, _⟩ := h
    rfl
  obtain ⟨x, d, n, rfl, hd, k⟩ := h
  refine ⟨_, -- if isinstance(_law_thing, str):
    (pss_cons (ps_if (pt_val (pe_callB call_isStr (by rfl) T.m_isinstance (by decide +kernel) (pa_cons (pv 0) (pa_cons (pe_bltn (v := .ty "str") (u := .type "str") (by rfl) T.m_str (by decide +kernel) rfl) pa_nil))))
      (pss_one (ps_ret (pe_cmpR (op_inT (hin_of hr)) (pv 0) (pe_tupF (pa_cons pe_str (pa_cons pe_str pa_nil))) (by with_unfolding_all rfl))))
      pss_nil)
    (pss_one (ps_ret (pe_and (pe_callB call_isInt (by rfl) T.m_isinstance (by decide +kernel) (pa_cons (pv 0) (pa_cons (pe_bltn (v := .ty "int") (u := .type "int") (by rfl) T.m_int (by decide +kernel) rfl) pa_nil))) (pe_and (pe_not (pe_callB call_isBool (by rfl) T.m_isinstance (by decide +kernel) (pa_cons (pv 0) (pa_cons (pe_bltn (v := .ty "bool") (u := .type "bool") (by rfl) T.m_bool (by decide +kernel) rfl) pa_nil)))) (pe_one (pe_chain op_le op_lt pe_int (pv 0) (pv 1)))))))), ?_⟩
  refine ⟨_, rfl, x, d, rfl, hd, _, rfl, ite2 (fun p => ?_) fun p => ?_⟩
  · refine ⟨_, rfl, (by show 2 ≤ sizeLine; decide), fun q o q0 _ => ?_⟩
    generalize hH : upd H q (.frz o (.tup [.str "claim", .str "give"])) = H1
    have sm : Same H H1 := by rw [← hH]; exact same_new q0
    have at1 : SqT K H1 q (endsL.map V.str) := .inl (.inr ⟨o, by rw [← hH]; exact upd_same⟩)
    refine ⟨d, endsL.map PyData.str, Dp.same sm hd, .tup at1 (dp_strs endsL), Dp.plain hd, rfl, Nat.zero_le _, ?_⟩
    have e : isG n d = inL endsL d := by
      cases hd <;> first | exact Bool.or_false _ | cases p
    have kk := k H1 sm
    rw [e] at kk
    rw [Bool.false_xor]
    exact kk
  · have kk := k H (Same.refl _)
    have e : isG n d = bet d 0 ((n : Int) - 1) := by
      cases hd <;> first | rfl | exact absurd rfl p
    rw [e] at kk
    refine ⟨_, rfl, x, d, rfl, hd, _, rfl, ite2 (fun q => ?_) fun q => ?_⟩
    · refine ⟨_, rfl, x, d, rfl, hd, _, rfl, _, rfl, ite2 (fun r => ?_) fun r => ?_⟩
      · cases hd with
        | int i =>
          refine ⟨_, rfl, _, _, rfl, rfl, _, rfl, ite2 (fun a => ?_) fun a => ?_⟩
          · refine ⟨_, rfl, _, _, rfl, rfl, ?_⟩
            have e2 : bet (.int i) 0 ((n : Int) - 1) = decide (i < n) := by
              show (decide (0 ≤ i) && decide (i ≤ (n : Int) - 1)) = _
              rw [a, Bool.true_and, decide_eq_decide]; omega
            rw [e2] at kk
            exact kk
          · have e2 : bet (.int i) 0 ((n : Int) - 1) = false := by
              show (decide (0 ≤ i) && _) = false
              rw [Bool.eq_false_iff.mpr a, Bool.false_and]
            rw [e2] at kk
            exact kk
        | bl b => cases r
        | non => cases q
        | str s => cases q
        | lst a b => cases q
        | tup a b => cases q
      · have e2 : bet d 0 ((n : Int) - 1) = false := by
          cases hd <;> first | rfl | exact absurd rfl r
        rw [e2] at kk
        exact kk
    · have e2 : bet d 0 ((n : Int) - 1) = false := by
        cases hd <;> first | rfl | exact absurd rfl q
      rw [e2] at kk
      exact kk
end
end SG
namespace SG
open PySem PySem.Spec PyProof.Rows L2
section
variable {P : Program} {w : World} {K : PySem.W.Frag} {mg : Str → Option Value} {base : Heap}
theorem ok_lstate (D : Df K mg "_law_is_state" s_law_is_state ["_law_thing", "_law_many"]) (T : Txt K mg) (c_law_is_goal : Cl P w K mg base 1 "_law_is_goal" (spGoal K)) : Cl P w K mg base 2 "_law_is_state" (spState K) := by
  refine D.ok sc_law_is_state (fun vs H Q E h => ?_) (fun f cdv A outer s H vs Q E hr h => ?_)
  · obtain ⟨x, d, n, rfl, _⟩ := h
    rfl
  obtain ⟨x, d, n, rfl, hd, sz, k⟩ := h
  have hu := hu_of hr
  refine ⟨_, -- if not isinstance(_law_thing, tuple) or len(_law_thing) != 2 or (not isinstance(_law_thing[1], tuple)):
    (C8.pss_cut (ps_if (PW.pt (pw_or (pt_not (pt_val (pe_callB call_isTup (by rfl) T.m_isinstance (by decide +kernel) (pa_cons (pv 0) (pa_cons (pe_bltn (v := .ty "tuple") (u := .type "tuple") (by rfl) T.m_tuple (by decide +kernel) rfl) pa_nil))))) (pw_or (pt_cmpR op_ne (pe_callB call_len_seq (by rfl) T.m_len PySem.boot_len (pa_cons (pv 0) pa_nil)) pe_int (nomark _)) (pw_or1 (pt_not (pt_val (pe_callB call_isTup (by rfl) T.m_isinstance (by decide +kernel) (pa_cons (pe_ix ix_tup (pv 0) pe_int (fun _ _ => rfl)) (pa_cons (pe_bltn (v := .ty "tuple") (u := .type "tuple") (by rfl) T.m_tuple (by decide +kernel) rfl) pa_nil)))))))))
      (pss_one (ps_ret pe_bl))
      pss_nil)
    (pss_cons (ps_par (i := 2) (j := 3) rfl sc_law_is_state.nd rfl rfl (by decide) rfl rfl (pa_cons (pe_ix ix_tup (pv 0) pe_int (fun _ _ => rfl)) (pa_cons (pe_lst pa_nil) pa_nil)) rfl)
    (C8.pss_cut (ps_if (PW.pt (pw_and (pt_cmp (pc_notN (pv 2))) (pw_and1 (PW.pt (pw_or (pt_not (pt_val (pe_callB call_isInt (by rfl) T.m_isinstance (by decide +kernel) (pa_cons (pv 2) (pa_cons (pe_bltn (v := .ty "int") (u := .type "int") (by rfl) T.m_int (by decide +kernel) rfl) pa_nil))))) (pw_or (pt_val (pe_callB call_isBool (by rfl) T.m_isinstance (by decide +kernel) (pa_cons (pv 2) (pa_cons (pe_bltn (v := .ty "bool") (u := .type "bool") (by rfl) T.m_bool (by decide +kernel) rfl) pa_nil)))) (pw_or1 (pt_not (pt_chain op_le op_le pe_int (pv 2) pe_int)))))))))
      (pss_one (ps_ret pe_bl))
      pss_nil)
    (C8.pss_cut (ps_for PassesOwn.never rfl (pi_tup (pe_ix ix_tup (pv 0) pe_int (fun _ _ => rfl))) (pg_name (i := 4) sc_law_is_state.nd rfl (Or.inl rfl))
      (pss_cons (ps_if (PW.pt (pw_or (pt_not (pt_val (pe_callB call_isTup (by rfl) T.m_isinstance (by decide +kernel) (pa_cons (pv 4) (pa_cons (pe_bltn (v := .ty "tuple") (u := .type "tuple") (by rfl) T.m_tuple (by decide +kernel) rfl) pa_nil))))) (pw_or (pt_cmpR op_ne (pe_callB call_len_seq (by rfl) T.m_len PySem.boot_len (pa_cons (pv 4) pa_nil)) pe_int (nomark _)) (pw_or (pt_not (pt_val (pe_callB call_isStr (by rfl) T.m_isinstance (by decide +kernel) (pa_cons (pe_ix ix_tup (pv 4) pe_int (fun _ _ => rfl)) (pa_cons (pe_bltn (v := .ty "str") (u := .type "str") (by rfl) T.m_str (by decide +kernel) rfl) pa_nil))))) (pw_or1 (pt_not (pt_val (pe_cl c_law_is_goal (hr.mono (by first | decide | omega)) rfl (pa_cons (pe_ix ix_tup (pv 4) pe_int (fun _ _ => rfl)) (pa_cons (pv 1) pa_nil))))))))))
        (pss_one (ps_ret pe_bl))
        pss_nil)
      (pss_one (ps_expr (pe_bm PySem.F.plainAttrs_list PySem.F.slot_list_append PySem.F.type_list_append mt_append (pv 3) (pa_cons (pe_ix ix_tup (pv 4) pe_int (fun _ _ => rfl)) pa_nil))))))
    (C8.pss_cut (ps_setLc (i := 5) (own := [("_law_word", 6)]) rfl sc_law_is_state.nd rfl rfl (sw_true rfl rfl rfl (by decide +kernel)) (pi_list (pv 3)) (blkOk_by (N := N_law_is_state) (sc := defScope s_law_is_state) (by decide +kernel)) (fun _ _ _ _ _ => (pg_name (i := 6) sc_law_is_state.nd rfl (Or.inl rfl))) (fun _ _ _ _ _ => pts_one (pt_cmpR (r := rIn K true) op_notIn_seq (pv 6) (pe_tupF (pa_cons pe_str (pa_cons pe_str (pa_cons pe_str (pa_cons pe_str pa_nil))))) (by with_unfolding_all rfl))) (fun _ _ _ _ _ => (pv 6)))
    (C8.pss_cut (ps_if (PW.pt (pw_or (pt_cmpR (op_neNil hr.units) (pv 5) (pe_lst pa_nil) (nomark _)) (pw_or1 (pt_cmpR op_lt (pe_lenSetT rfl rfl T.m_len rfl T.m_set (pv 3)) (pe_callB call_len_seq (by rfl) T.m_len PySem.boot_len (pa_cons (pv 3) pa_nil)) (nomark _)))))
      (pss_one (ps_ret pe_bl))
      pss_nil)
    (pss_one (ps_ret (pe_cmpR op_eq (pe_cmpR op_in_seq pe_str (pv 3) (by with_unfolding_all rfl)) (pe_cmp (pc_notN (pv 2))) (nomark _)))))))))), ?_⟩
  refine ⟨fun σ Hx => σ = [some x, some (.int n), none, none, none, none, none] ∧ Hx = H ∧ ∃ a ss, d = .tuple [a, .tuple ss], ?_, ?_⟩
  · refine ⟨_, rfl, x, d, rfl, hd, _, rfl, ite2 (fun p => ?_) fun p => ?_⟩
    · have e : isState n d = false := by
        cases h : isState n d with
        | false => rfl
        | true => obtain ⟨a, b, rfl, _⟩ := isState_two h; cases p
      have kk := k H (Same.refl _)
      rw [e] at kk
      exact ite2 (fun _ => kk) fun z => absurd rfl z
    obtain ⟨ds, rfl⟩ : ∃ ss, d = .tuple ss := by
      cases hd <;> first | exact ⟨_, rfl⟩ | exact absurd rfl p
    obtain ⟨t, xs, rfl, hx, al⟩ := Dp.tupOf hd
    have lxs := DpAll.len al
    have out : isState n (.tuple ds) = false → Q (.bl false) H := by
      intro z
      have kk := k H (Same.refl _)
      rw [z] at kk
      exact kk
    refine ⟨_, rfl, _, _, rfl, .inr hx, rfl, _, rfl, ite2 (fun q => ?_) fun q => ?_⟩
    · have e : isState n (.tuple ds) = false := by
        cases h : isState n (.tuple ds) with
        | false => rfl
        | true =>
          obtain ⟨a, b, e, _⟩ := isState_two h
          cases e
          rw [lxs] at q
          cases q
      exact ite2 (fun _ => out e) fun z => absurd rfl z
    have two : ds.length = 2 := by
      rw [lxs] at q
      have q' : decide (V.int (ds.length : Int) = V.int ((2 : Nat) : Int)) = true := by simpa using q
      rw [dec_nat] at q'
      exact of_decide_eq_true q'
    obtain ⟨a, b, e⟩ := rowN_two (show rowN 2 (.tuple ds) = true by show decide (ds.length = 2) = true; rw [two]; rfl)
    cases e
    obtain ⟨u, v, rfl, ha, hb⟩ := DpAll.two al
    refine ⟨_, rfl, t, _, 1, v, rfl, rfl, hx, atI_nat (j := 1) rfl, v, b, rfl, hb, _, rfl, ite2 (fun r => ?_) fun r => ?_⟩
    · exact out (isState_tup (by simpa using r))
    · obtain ⟨ss, rfl⟩ : ∃ ss, b = .tuple ss := by
        cases hb <;> first | exact ⟨_, rfl⟩ | exact absurd rfl r
      exact ⟨rfl, rfl, a, ss, rfl⟩
  rintro σ Hx ⟨rfl, rfl, a, ss, rfl⟩
  obtain ⟨t, xs, rfl, hx, al⟩ := Dp.tupOf hd
  obtain ⟨u, v, rfl, ha, hb⟩ := DpAll.two al
  obtain ⟨t3, ys, rfl, hx3, al3⟩ := Dp.tupOf hb
  have lys := DpAll.len al3
  have few : 12 * ss.length ≤ 48000 := by
    have := wtAll_len ss
    simp only [wt, wtAll] at sz
    omega
  refine ⟨_, rfl, t, _, 0, u, rfl, rfl, hx, atI_nat (j := 0) rfl, (by show 0 ≤ sizeLine; decide), ?_⟩
  (intro fo fo0; generalize hh_ : upd _ fo _ = H1; have hfo := upd_is hh_; have s1 := same_is hh_ fo0; clear hh_)
  refine ⟨_, _, rfl, ?_⟩
  refine ⟨fun σ Hy => σ = [some (.ref t), some (.int n), some u, some (.ref fo), none, none, none] ∧ Hy = H1 ∧ (SG.isNon a || bet a 1 10000) = true, ?_, ?_⟩
  · have out : (SG.isNon a || bet a 1 10000) = false → Q (.bl false) H1 := by
      intro z
      have kk := k H1 s1
      rw [isState_wait z] at kk
      exact kk
    refine ⟨_, rfl, _, rfl, ite2 (fun q => ?_) fun q => ?_⟩
    · have nn : SG.isNon a = false := by rw [← Dp.isNon ha]; simpa using q
      have ha1 := Dp.same s1 ha
      rw [nn, Bool.false_or] at out ⊢
      refine ⟨_, rfl, u, a, rfl, ha1, _, rfl, ite2 (fun r => ?_) fun r => ?_⟩
      · have e : bet a 1 10000 = false := by cases ha <;> first | rfl | cases r
        exact ite2 (fun _ => out e) fun z => absurd rfl z
      refine ⟨_, rfl, u, a, rfl, ha1, _, rfl, ite2 (fun r2 => ?_) fun r2 => ?_⟩
      · have e : bet a 1 10000 = false := by cases ha <;> first | rfl | cases r2
        exact ite2 (fun _ => out e) fun z => absurd rfl z
      cases ha with
      | int i =>
        refine ⟨_, rfl, _, _, rfl, rfl, _, rfl, ite2 (fun r3 => ?_) fun r3 => ?_⟩
        · refine ⟨_, _, rfl, rfl, _, rfl, ite2 (fun r4 => ?_) fun r4 => ?_⟩
          · refine out ?_
            show (decide (1 ≤ i) && decide (i ≤ 10000)) = false
            rw [r3, Bool.true_and]
            simpa using r4
          · refine ⟨rfl, rfl, ?_⟩
            show (decide (1 ≤ i) && decide (i ≤ 10000)) = true
            rw [r3, Bool.true_and]
            simpa using r4
        · refine ⟨_, rfl, ite2 (fun _ => out ?_) fun z => absurd rfl z⟩
          show (decide (1 ≤ i) && decide (i ≤ 10000)) = false
          rw [Bool.eq_false_iff.mpr r3, Bool.false_and]
      | bl b => exact absurd rfl r2
      | non => exact absurd rfl r
      | str s => exact absurd rfl r
      | lst a b => exact absurd rfl r
      | tup a b => exact absurd rfl r
    · have nn : SG.isNon a = true := by rw [← Dp.isNon ha]; simpa using q
      exact ite2 (fun z => by cases z) fun _ => ⟨rfl, rfl, by rw [nn]; rfl⟩
  rintro σ Hy ⟨rfl, rfl, oka⟩
  have new_fo : ∀ {Hz : Hp} {o : HO}, Same Hx Hz → Same Hx (upd Hz fo o) := fun sz' p o e => by
    rw [upd_ne (ne_of_none e fo0)]
    exact sz' _ _ e
  refine ⟨fun σ Hz => ∃ k4 : Option V, σ = [some (.ref t), some (.int n), some u, some (.ref fo), k4, none, none] ∧ Same Hx Hz ∧ Hz fo = some (.lst ((ss.map wordOf).map V.str)) ∧ ss.all (isStepS n) = true, ?_, ?_⟩
  · refine ⟨_, rfl, t, _, 1, .ref t3, rfl, rfl, same_sqT s1 hx, atI_nat (j := 1) rfl, t3, rfl, ⟨_, same_sqT s1 hx3⟩, ?_⟩
    refine for_tup (K := K) (a := t3) (xs := ys) (fun j σ Hz => ∃ k4 : Option V, σ = [some (.ref t), some (.int n), some u, some (.ref fo), k4, none, none] ∧ Same Hx Hz ∧ Hz fo = some (.lst (((ss.take j).map wordOf).map V.str)) ∧ (ss.take j).all (isStepS n) = true) ⟨none, rfl, s1, hfo, rfl⟩ (fun j σ Hz _ ⟨_, _, sz', _⟩ => same_sqT sz' hx3) ?_ ?_
    · rintro j y σ Hz hj ⟨k4, rfl, sz', hw, okj⟩
      have hjl := (List.getElem?_eq_some_iff.mp hj).1
      have hjs : j < ss.length := by omega
      have e2 : ss[j]? = some ss[j] := List.getElem?_eq_getElem hjs
      obtain ⟨v', ev, hv⟩ := DpAll.get al3 e2
      rw [hj] at ev
      obtain rfl := Option.some.inj ev
      have out : ∀ {Hw : Hp}, Same Hx Hw → isStepS n ss[j] = false → Q (.bl false) Hw := by
        intro Hw sw z
        have kk := k Hw sw
        rw [isState_all (by rw [all_split, all_not e2 z, Bool.false_and])] at kk
        exact kk
      generalize ss[j] = d at hv out e2 ⊢
      have hvz := Dp.same sz' hv
      refine ⟨_, rfl, y, d, rfl, hvz, _, rfl, ite2 (fun p => ?_) fun p => ?_⟩
      · exact ite2 (fun _ => out sz' (by cases hv <;> first | rfl | cases p)) fun z => absurd rfl z
      obtain ⟨ds, rfl⟩ : ∃ ss, d = .tuple ss := by
        cases hv <;> first | exact ⟨_, rfl⟩ | exact absurd rfl p
      obtain ⟨t4, zs, rfl, hx4, al4⟩ := Dp.tupOf hvz
      have lzs := DpAll.len al4
      refine ⟨_, rfl, _, _, rfl, .inr hx4, rfl, _, rfl, ite2 (fun q => ?_) fun q => ?_⟩
      · have e : isStepS n (.tuple ds) = false := by
          cases h : isStepS n (.tuple ds) with
          | false => rfl
          | true =>
            obtain ⟨a, b, e, _⟩ := isStepS_parts h
            cases e
            rw [lzs] at q
            cases q
        exact ite2 (fun _ => out sz' e) fun z => absurd rfl z
      have two : ds.length = 2 := by
        rw [lzs] at q
        have q' : decide (V.int (ds.length : Int) = V.int ((2 : Nat) : Int)) = true := by simpa using q
        rw [dec_nat] at q'
        exact of_decide_eq_true q'
      obtain ⟨b1, b2, e⟩ := rowN_two (show rowN 2 (.tuple ds) = true by show decide (ds.length = 2) = true; rw [two]; rfl)
      cases e
      obtain ⟨z1, z2, rfl, h1, h2⟩ := DpAll.two al4
      refine ⟨_, rfl, t4, _, 0, z1, rfl, rfl, hx4, atI_nat (j := 0) rfl, z1, b1, rfl, h1, _, rfl, ite2 (fun r => ?_) fun r => ?_⟩
      · exact ite2 (fun _ => out sz' (by cases h1 <;> first | rfl | cases r)) fun z => absurd rfl z
      obtain ⟨wz, rfl⟩ : ∃ wz, b1 = .str wz := by
        cases h1 <;> first | exact ⟨_, rfl⟩ | exact absurd rfl r
      obtain rfl : z1 = .str wz := by cases h1; rfl
      refine ⟨_, rfl, t4, _, 1, z2, rfl, rfl, hx4, atI_nat (j := 1) rfl, _, rfl, z2, b2, n, rfl, h2, ?_⟩
      intro Hw sw
      refine ⟨_, rfl, ite2 (fun r => ?_) fun r => ?_⟩
      · exact out (sz'.trans sw) (show isG n b2 = false by simpa using r)
      have okg : isG n b2 = true := by simpa using r
      refine ⟨_, rfl, .inl ⟨rfl, _, SqL.of (sw _ _ hw)⟩, _, rfl, t4, _, 0, .str wz, rfl, rfl, same_sqT sw hx4, atI_nat (j := 0) rfl, fo, _, _, rfl, rfl, sw _ _ hw, ?_, ?_⟩
      · rw [List.length_map, List.length_map, List.length_take]
        have : 100000 ≤ sizeLine := by decide
        omega
      · have et : ss.take (j + 1) = ss.take j ++ [.tuple [.str wz, b2]] := by
          rw [List.take_succ, e2]; rfl
        refine ⟨_, rfl, new_fo (sz'.trans sw), ?_, ?_⟩
        · rw [upd_same, et, List.map_append, List.map_append]; rfl
        · rw [et, List.all_append, okj]
          show (isG n b2 && true) = true
          rw [okg]; rfl
    · rintro σ Hz ⟨k4, rfl, sz', hw, okj⟩
      rw [lys, List.take_length] at hw okj
      exact ⟨k4, rfl, sz', hw, okj⟩
  rintro σ Hz ⟨k4, rfl, sz', hw, okS⟩
  refine ⟨fun σ Hw => ∃ (dd : Addr) (zs : List V), σ = [some (.ref t), some (.int n), some u, some (.ref fo), k4, some (.ref dd), none] ∧ Same Hz Hw ∧ Hw dd = some (.lst zs) ∧ zs.isEmpty = (ss.map wordOf).all fun w => wordsL.contains w, ?_, ?_⟩
  · refine ⟨_, rfl, fo, rfl, ⟨_, SqL.of hw⟩, ?_⟩
    intro dd dd0
    refine lc_list (K := K) (a := fo) (xs := (ss.map wordOf).map V.str) (fun i Hw => ∃ zs : List V, Hw dd = some (.lst zs) ∧ zs.length ≤ i ∧ zs.isEmpty = ((ss.map wordOf).take i).all (fun w => wordsL.contains w) ∧ Same Hz Hw) ⟨[], upd_same, Nat.le_refl _, rfl, same_new dd0⟩ (fun i Hw _ ⟨_, _, _, _, sw⟩ => SqL.of (sw _ _ hw)) ?_ ?_
    · rintro i v Hw hi ⟨zs, x1, x2, x3, sw⟩
      have hil := (List.getElem?_eq_some_iff.mp hi).1
      rw [List.length_map, List.length_map] at hil
      rw [List.getElem?_map] at hi
      obtain ⟨wz, ew, e⟩ := Option.map_eq_some_iff.mp hi
      subst e
      have et : (ss.map wordOf).take (i + 1) = (ss.map wordOf).take i ++ [wz] := by rw [List.take_succ, ew]; rfl
      refine ⟨rfl, ?_⟩
      refine ⟨_, rfl, (by show 4 ≤ sizeLine; decide), fun q o q0 _ => ?_⟩
      generalize hH : upd Hw q (.frz o (.tup [.str "out", .str "up", .str "down", .str "wait"])) = Hv
      have sm : Same Hw Hv := by rw [← hH]; exact same_new q0
      have at1 : SqT K Hv q (wordsL.map V.str) := .inl (.inr ⟨o, by rw [← hH]; exact upd_same⟩)
      refine ⟨q, wordsL.map V.str, rfl, .inr at1, rfl, rfl, _, rfl, ?_⟩
      have ev : inV (.str wz) (wordsL.map V.str) = wordsL.contains wz := by
        rw [inV_strs, List.contains_eq_any_beq]
        congr 1
        funext z
        exact Bool.beq_comm
      refine ite2 (fun r => ?_) fun r => ?_
      · have r' : wordsL.contains wz = false := by rw [← ev]; simpa using r
        refine ⟨_, rfl, zs, sm _ _ x1, ?_, zs ++ [.str wz], upd_same, by rw [List.length_append]; exact Nat.add_le_add_right x2 1, ?_, ?_⟩
        · have : 100000 ≤ sizeLine := by decide
          omega
        · rw [et, List.all_append, List.all_cons, r', Bool.false_and, Bool.and_false]
          cases zs <;> rfl
        · intro p o e
          rw [upd_ne (ne_of_none e dd0)]
          exact sm _ _ (sw _ _ e)
      · have r' : wordsL.contains wz = true := by rw [← ev]; simpa using r
        refine ⟨zs, sm _ _ x1, by omega, ?_, sw.trans sm⟩
        rw [et, List.all_append, x3, List.all_cons, r', List.all_nil]
        simp only [Bool.and_true]
    · rintro Hw ⟨zs, x1, x2, x3, sw⟩
      rw [List.length_map, List.length_map] at x3
      rw [show (ss.map wordOf).take ss.length = ss.map wordOf by rw [List.take_of_length_le (by rw [List.length_map]; exact Nat.le_refl _)]] at x3
      exact ⟨dd, zs, rfl, sw, x1, x3⟩
  rintro σ Hw ⟨dd, zs, rfl, sw, hdd, hz⟩
  have swx := sz'.trans sw
  have isS : isState n (.tuple [a, .tuple ss]) = ((zs.isEmpty && decide ((seen (ss.map wordOf) ss.length).length = ss.length)) && ((ss.map wordOf).any (· == "wait") == !SG.isNon a)) := by
    rw [isState_eq, oka, Bool.true_and]
    unfold isSteps
    rw [all_split, okS, Bool.true_and, ← hz, Bool.and_assoc]
  refine ⟨fun σ Hv => σ = [some (.ref t), some (.int n), some u, some (.ref fo), k4, some (.ref dd), none] ∧ Same Hw Hv ∧ (zs.isEmpty && decide ((seen (ss.map wordOf) ss.length).length = ss.length)) = true, ?_, ?_⟩
  · refine ⟨_, rfl, (by show 0 ≤ sizeLine; decide), ?_⟩
    (intro nl nl0; generalize hh_ : upd _ nl _ = Hv; have hnl := upd_is hh_; have sv := same_is hh_ nl0; clear hh_)
    refine ⟨dd, nl, zs, rfl, rfl, SqL.of (sv _ _ hdd), SqL.of hnl, _, rfl, ite2 (fun r => ?_) fun r => ?_⟩
    · have kk := k Hv (swx.trans sv)
      rw [isS, show zs.isEmpty = false by simpa using r] at kk
      exact ite2 (fun _ => kk) fun z => absurd rfl z
    · have r' : zs.isEmpty = true := by simpa using r
      refine ⟨_, rfl, fo, ss.map wordOf, rfl, SqL.of (sv _ _ (sw _ _ hw)), by rw [List.length_map]; omega, _, rfl, _, _, rfl, .inl (SqL.of (sv _ _ (sw _ _ hw))), _, _, rfl, rfl, _, rfl, ?_⟩
      have le := seen_le (ss.map wordOf) (ss.map wordOf).length
      simp only [List.length_map] at le ⊢
      refine ite2 (fun q => ?_) fun q => ?_
      · have q' := of_decide_eq_true q
        have kk := k Hv (swx.trans sv)
        rw [isS, show decide ((seen (ss.map wordOf) ss.length).length = ss.length) = false from decide_eq_false (by omega), Bool.and_false, Bool.false_and] at kk
        exact kk
      · have q' : ¬ ((seen (ss.map wordOf) ss.length).length : Int) < (ss.length : Int) := fun z => q (decide_eq_true z)
        refine ⟨rfl, sv, ?_⟩
        rw [r', Bool.true_and]
        exact decide_eq_true (by omega)
  rintro σ Hv ⟨rfl, sv, fine⟩
  have ks := k Hv (swx.trans sv)
  rw [isS, fine, Bool.true_and] at ks
  refine ⟨_, rfl, fo, _, rfl, .inl (SqL.of (sv _ _ (sw _ _ hw))), rfl, ?_, _, rfl, ?_⟩
  · rw [List.all_map, List.all_eq_true]
    intro z _
    rfl
  refine ⟨rfl, ?_⟩
  rw [← inV_strs, ← Dp.isNon ha, ← dec_bl] at ks
  exact ks
end
end SG
namespace SG
open PySem PySem.Spec PyProof.Rows L2
def leadR (sts : List PyData) (i : Nat) (w : Str) : PyData := (leadD (stepsOf (sts.getD i .none)) w).getD .none
def spLead (K : PySem.W.Frag) : Sp := fun vs H Q _ => ∃ (x : V) (sts : List PyData) (n i : Nat) (wd : Str), vs = [x, .int i, .str wd] ∧ Fz K H x (.tuple sts) ∧ sts.all (isState n) = true ∧ i < sts.length ∧
  ∀ H' v, Same H H' → Fz K H' v (leadR sts i wd) → Q v H'
section
variable {P : Program} {w : World} {K : PySem.W.Frag} {mg : Str → Option Value} {base : Heap}
theorem ok_lead (D : Df K mg "_law_lead" s_law_lead ["_law_machine_here", "_law_at", "_law_word"]) (T : Txt K mg) : Cl P w K mg base 1 "_law_lead" (spLead K) := by
  refine D.ok sc_law_lead (fun vs H Q E h => ?_) (fun f cdv A outer s H vs Q E hr h => ?_)
  · obtain ⟨x, sts, n, i, wd, rfl, _⟩ := h
    rfl
  obtain ⟨x, sts, n, i, wd, rfl, hd, ok, hi, k⟩ := h
  have hu := hu_of hr
  obtain ⟨t, xs, rfl, hx, al⟩ := hd.tupOf
  have e1 : sts[i]? = some sts[i] := List.getElem?_eq_getElem hi
  have oki := List.all_eq_true.mp ok sts[i] (List.getElem_mem hi)
  obtain ⟨a, ss, es, oks⟩ := isState_two oki
  obtain ⟨u, eu, hu1⟩ := al.get e1
  rw [es] at hu1 oki
  obtain ⟨t2, xs2, rfl, hx2, al2⟩ := hu1.tupOf
  obtain ⟨p, q, rfl, hp, hq⟩ := al2.two
  obtain ⟨t3, ys, rfl, hx3, al3⟩ := hq.tupOf
  have sts_ss : stepsOf (sts.getD i .none) = ss := by
    rw [List.getD_eq_getElem?_getD, e1, es]; rfl
  obtain ⟨ps, kvs, rfl, pr, keys, look⟩ := steps_pairs al3 oks
  have nd : ((([] : List (Key × V)) ++ kvs).map (·.1)).Nodup := by
    rw [List.nil_append, keys]
    have q := isState_nodup oki
    rw [List.Nodup, List.pairwise_map] at q ⊢
    exact q.imp fun h z => h (Sum.inr.inj z)
  have mk := merge_nodup kvs [] nd
  rw [List.nil_append] at mk
  refine ⟨_, -- return dict(_law_machine_here[_law_at][1]).get(_law_word)
    (pss_one (ps_ret (pe_dget1 hu (pe_callTy (call_dictT rfl) (by rfl) T.m_dict (by decide +kernel) (pa_cons (pe_ix ix_tup (pe_ix ix_tup (pv 0) (pv 1) (fun _ _ => rfl)) pe_int (fun _ _ => rfl)) pa_nil)) (pv 2) ⟨by rfl, by rfl, by rfl, by rfl⟩))), ?_⟩
  refine ⟨_, rfl, _, rfl, t, xs, i, .ref t2, rfl, rfl, hx.sq, atI_nat eu, t2, _, 1, .ref t3, rfl, rfl, hx2.sq, atI_nat (j := 1) rfl, ?_⟩
  refine ⟨t3, ps, kvs, rfl, hx3, pr, fun dd dd0 => ?_⟩
  rw [mk]
  generalize hH : upd H dd (.dK kvs) = H1
  have s1 : Same H H1 := by rw [← hH]; exact same_new dd0
  have hdd : H1 dd = some (.dK kvs) := by rw [← hH]; exact upd_same
  refine ⟨dd, rfl, .inl ⟨kvs, .inl hdd⟩, _, rfl, _, DGet.k (k := Sum.inr wd) hdd, ?_⟩
  have lk := look wd
  have eR : leadR sts i wd = (leadD ss wd).getD .none := by unfold leadR; rw [sts_ss]
  cases e : leadD ss wd with
  | none =>
    rw [e] at lk eR
    have lk' : valV kvs (Sum.inr wd : Key) = none := lk
    rw [lk']
    exact k H1 .non s1 (by rw [eR]; exact .non)
  | some g =>
    rw [e] at lk eR
    obtain ⟨v, lk', hv⟩ : ∃ v, valV kvs (Sum.inr wd : Key) = some v ∧ Fz K H v g := lk
    rw [lk']
    exact k H1 v s1 (by rw [eR]; exact hv.same s1)
end
end SG
/-! a ring by waits among n states is seen after n turns as after nine -/
namespace SG
open PySem PySem.Spec PyProof.Rows L2
section
variable {sts : List PyData} {n : Nat}
theorem runF_shift : ∀ k i, runF sts (k + 1) i = (nextW sts i).bind (runF sts k)
  | 0, i => by
    show (some i).bind (nextW sts) = _
    cases e : nextW sts i with
    | none => rw [Option.bind_some, e]; rfl
    | some j => rw [Option.bind_some, e]; rfl
  | k + 1, i => by
    show (runF sts (k + 1) i).bind (nextW sts) = _
    rw [runF_shift k i, Option.bind_assoc]
    rfl
def S (sts : List PyData) (k i : Nat) : Bool := (runF sts k i).isSome
theorem S_down {k i : Nat} (h : S sts (k + 1) i = true) : S sts k i = true := by
  unfold S at h ⊢
  cases e : runF sts k i with
  | none => have : runF sts (k + 1) i = none := by show (runF sts k i).bind _ = none; rw [e]; rfl
            rw [this] at h; cases h
  | some j => rfl
theorem S_le {k i : Nat} : ∀ {m : Nat}, k ≤ m → S sts m i = true → S sts k i = true := by
  intro m
  induction m with
  | zero => intro h q; obtain rfl : k = 0 := by omega
            exact q
  | succ m ih =>
    intro h q
    by_cases e : k = m + 1
    · rw [e]; exact q
    · exact ih (by omega) (S_down q)
theorem S_step {k i : Nat} : S sts (k + 1) i = true ↔ ∃ j, nextW sts i = some j ∧ S sts k j = true := by
  unfold S
  rw [runF_shift]
  cases e : nextW sts i with
  | none => simp
  | some j => simp
theorem stable_up (hn : ∀ i j, i < n → nextW sts i = some j → j < n) {k : Nat} (h : ∀ i, i < n → S sts k i = true → S sts (k + 1) i = true) : ∀ m i, i < n → S sts k i = true → S sts (k + m) i = true := by
  have one : ∀ m i, i < n → S sts (k + m) i = true → S sts (k + m + 1) i = true := by
    intro m
    induction m with
    | zero => intro i hi q; exact h i hi q
    | succ m ih =>
      intro i hi q
      obtain ⟨j, e, q'⟩ := S_step.mp q
      exact S_step.mpr ⟨j, e, ih j (hn i j hi e) q'⟩
  intro m
  induction m with
  | zero => intro i _ q; exact q
  | succ m ih => intro i hi q; exact one m i hi (ih i hi q)
theorem count_le {p q : Nat → Bool} : ∀ l : List Nat, (∀ x ∈ l, p x = true → q x = true) → l.countP p ≤ l.countP q
  | [], _ => Nat.le_refl _
  | x :: l, h => by
    have ih := count_le l fun y hy => h y (by simp [hy])
    have h0 := h x (by simp)
    rw [List.countP_cons, List.countP_cons]
    cases hp : p x with
    | false => simp only [Bool.false_eq_true, if_false]; split <;> omega
    | true => rw [h0 hp]; simp only [if_true]; omega
theorem count_lt {p q : Nat → Bool} : ∀ l : List Nat, (∀ x ∈ l, p x = true → q x = true) → (∃ x ∈ l, q x = true ∧ p x = false) → l.countP p < l.countP q
  | [], _, ⟨x, hx, _⟩ => by cases hx
  | x :: l, h, ⟨y, hy, h1, h2⟩ => by
    have ih := count_le l fun y hy => h y (by simp [hy])
    have h0 := h x (by simp)
    rw [List.countP_cons, List.countP_cons]
    cases hy with
    | head => rw [h1, h2]; simp; omega
    | tail _ hy =>
      have ih2 := count_lt l (fun y hy => h y (by simp [hy])) ⟨y, hy, h1, h2⟩
      cases hp : p x with
      | false => simp only [Bool.false_eq_true, if_false]; split <;> omega
      | true => rw [h0 hp]; simp only [if_true]; omega
theorem shrink (k : Nat) : (List.range n).countP (S sts k) + k ≤ n ∨ ∃ k', k' < k ∧ ∀ i, i < n → S sts k' i = true → S sts (k' + 1) i = true := by
  induction k with
  | zero =>
    left
    have := List.countP_le_length (p := S sts 0) (l := List.range n)
    rw [List.length_range] at this
    omega
  | succ k ih =>
    rcases ih with ih | ⟨k', h1, h2⟩
    · by_cases st : ∀ i, i < n → S sts k i = true → S sts (k + 1) i = true
      · exact .inr ⟨k, by omega, st⟩
      · left
        have lt : (List.range n).countP (S sts (k + 1)) < (List.range n).countP (S sts k) := by
          refine count_lt _ (fun x _ => S_down) ?_
          have ex : ∃ i, ¬ (i < n → S sts k i = true → S sts (k + 1) i = true) := Classical.not_forall.mp st
          obtain ⟨i, hi⟩ := ex
          have h1 : i < n := Classical.byContradiction fun z => hi fun y => absurd y z
          have h2 : S sts k i = true := Classical.byContradiction fun z => hi fun _ y => absurd y z
          refine ⟨i, List.mem_range.mpr h1, h2, ?_⟩
          rw [Bool.eq_false_iff]
          exact fun z => hi fun _ _ => z
        omega
    · exact .inr ⟨k', by omega, h2⟩
theorem ring_eq (h8 : n ≤ 8) (hn : ∀ i j, i < n → nextW sts i = some j → j < n) : ((List.range n).any fun i => (runF sts n i).isSome) = (List.range n).any fun i => (runF sts 9 i).isSome := by
  rw [Bool.eq_iff_iff, List.any_eq_true, List.any_eq_true]
  constructor
  · rintro ⟨i, hi, q⟩
    have hi' := List.mem_range.mp hi
    rcases shrink (sts := sts) (n := n) n with h | ⟨k', h1, h2⟩
    · have z : 0 < (List.range n).countP (S sts n) := List.countP_pos_iff.mpr ⟨i, hi, q⟩
      omega
    · refine ⟨i, hi, ?_⟩
      have a : S sts k' i = true := S_le (by omega) q
      have b := stable_up hn h2 (9 - k') i hi' a
      rwa [show k' + (9 - k') = 9 by omega] at b
  · rintro ⟨i, hi, q⟩
    exact ⟨i, hi, S_le (by omega) q⟩
end
theorem nextW_lt {sts : List PyData} {n i j : Nat} (ok : sts.all (isState n) = true) (hi : i < sts.length) (h : nextW sts i = some j) : j < n := by
  unfold nextW at h
  rcases stepD_wait ok hi with e | ⟨s, hs, e⟩ | ⟨m, hm, e⟩
  · rw [e] at h; cases h
  · rw [e] at h; cases h
  · rw [e] at h
    have : (m : Int).toNat = j := Option.some.inj h
    omega
end SG
namespace SG
open PySem PySem.Spec PyProof.Rows L2
def spMachF (K : PySem.W.Frag) : Sp := fun vs H Q _ => ∃ (x : V) (d : PyData), vs = [x] ∧ Fz K H x d ∧ wt d ≤ 48000 ∧ ∀ H', Same H H' → Q (.bl (isMach d)) H'
theorem leadR_wait (sts : List PyData) (i : Nat) : leadR sts i "wait" = stepD sts i "wait" := by
  unfold leadR stepD
  cases leadD (stepsOf (sts.getD i .none)) "wait" with
  | none =>
    show PyData.none = if ("wait" : Str) = "out" ∨ ("wait" : Str) = "up" then PyData.str "give" else .none
    rw [if_neg (by decide)]
  | some g => rfl
section
variable {P : Program} {w : World} {K : PySem.W.Frag} {mg : Str → Option Value} {base : Heap}
theorem ok_lmach (D : Df K mg "_law_is_machine" s_law_is_machine ["_law_thing"]) (T : Txt K mg) (c_law_is_state : Cl P w K mg base 2 "_law_is_state" (spState K)) (c_law_lead : Cl P w K mg base 1 "_law_lead" (spLead K)) : Cl P w K mg base 3 "_law_is_machine" (spMachF K) := by
  refine D.ok sc_law_is_machine (fun vs H Q E h => ?_) (fun f cdv A outer s H vs Q E hr h => ?_)
  · obtain ⟨x, d, rfl, _⟩ := h
    rfl
  obtain ⟨x, d, rfl, hf, sz, k⟩ := h
  have hu := hu_of hr
  have hd := hf.dp
  refine ⟨_, -- if not isinstance(_law_thing, tuple) or not 1 <= len(_law_thing) <= 8:
    (C8.pss_cut (ps_if (PW.pt (pw_or (pt_not (pt_val (pe_callB call_isTup (by rfl) T.m_isinstance (by decide +kernel) (pa_cons (pv 0) (pa_cons (pe_bltn (v := .ty "tuple") (u := .type "tuple") (by rfl) T.m_tuple (by decide +kernel) rfl) pa_nil))))) (pw_or1 (pt_not (pt_chain op_le op_le pe_int (pe_callB call_len_seq (by rfl) T.m_len PySem.boot_len (pa_cons (pv 0) pa_nil)) pe_int)))))
      (pss_one (ps_ret pe_bl))
      pss_nil)
    (C8.pss_cut (ps_if (pt_cmpR (op_neNil hr.units) (pe_lc (own := [("_law_state", 4)]) rfl sc_law_is_machine.nd (pi_tup (pv 0)) (blkOk_by (N := N_law_is_machine) (sc := defScope s_law_is_machine) (by decide +kernel)) (fun _ _ _ _ _ => (pg_name (i := 4) sc_law_is_machine.nd rfl (Or.inl rfl))) (fun _ _ _ _ _ => pts_one (pt_not (pt_val (pe_cl c_law_is_state (hr.mono (by first | decide | omega)) rfl (pa_cons (pv 4) (pa_cons (pe_callB (r := rLenSq K) call_len_seq (by rfl) T.m_len PySem.boot_len (pa_cons (pv 0) pa_nil)) pa_nil)))))) (fun _ _ _ _ _ => (pv 4))) (pe_lst pa_nil) (nomark _))
      (pss_one (ps_ret pe_bl))
      pss_nil)
    (C8.pss_cut (ps_for PassesOwn.never rfl (pi_range1 rfl T.m_range (pa_cons (pe_callB call_len_seq (by rfl) T.m_len PySem.boot_len (pa_cons (pv 0) pa_nil)) pa_nil)) (pg_name (i := 1) sc_law_is_machine.nd rfl (Or.inl rfl))
      (pss_cons (ps_set (i := 2) sc_law_is_machine.nd rfl (Or.inl rfl) (pv 1))
      (pss_cons (ps_for PassesOwn.never rfl (pi_range1 rfl T.m_range (pa_cons pe_int pa_nil)) (pg_name (i := 3) sc_law_is_machine.nd rfl (Or.inl rfl))
        (pss_one (ps_set (i := 2) sc_law_is_machine.nd rfl (Or.inl rfl) (pe_ifExp (pt_val (pe_callB call_isInt (by rfl) T.m_isinstance (by decide +kernel) (pa_cons (pv 2) (pa_cons (pe_bltn (v := .ty "int") (u := .type "int") (by rfl) T.m_int (by decide +kernel) rfl) pa_nil)))) (pe_cl c_law_lead (hr.mono (by first | decide | omega)) rfl (pa_cons (pv 0) (pa_cons (pv 2) (pa_cons pe_str pa_nil)))) pe_non))))
      (pss_one (ps_if (PW.pt (pw_and (pt_cmp (pc_notN (pv 2))) (pw_and1 (pt_val (pe_callB call_isInt (by rfl) T.m_isinstance (by decide +kernel) (pa_cons (pv 2) (pa_cons (pe_bltn (v := .ty "int") (u := .type "int") (by rfl) T.m_int (by decide +kernel) rfl) pa_nil)))))))
        (pss_one (ps_ret pe_bl))
        pss_nil)))))
    (pss_one (ps_ret pe_bl))))), ?_⟩
  refine ⟨fun σ Hx => σ = [some x, none, none, none, none] ∧ Hx = H ∧ ∃ sts, d = .tuple sts ∧ 1 ≤ sts.length ∧ sts.length ≤ 8, ?_, ?_⟩
  · refine ⟨_, rfl, x, d, rfl, hd, _, rfl, ite2 (fun q => ?_) fun q => ?_⟩
    · have e : isMach d = false := by cases hd <;> first | rfl | cases q
      have kk := k H (Same.refl _)
      rw [e] at kk
      exact ite2 (fun _ => kk) fun z => absurd rfl z
    · obtain ⟨sts, rfl⟩ : ∃ ss, d = .tuple ss := by
        cases hd <;> first | exact ⟨_, rfl⟩ | exact absurd rfl q
      obtain ⟨t, xs, rfl, hx, al⟩ := Dp.tupOf hd
      have lxs := DpAll.len al
      have out : ¬ (1 ≤ sts.length ∧ sts.length ≤ 8) → Q (.bl false) H := by
        intro z
        have kk := k H (Same.refl _)
        rw [isMach_len z] at kk
        exact kk
      refine ⟨_, rfl, _, _, rfl, .inr hx, _, _, rfl, rfl, _, rfl, ite2 (fun a => ?_) fun a => ?_⟩
      · have a' : 1 ≤ sts.length := by have := of_decide_eq_true a; omega
        refine ⟨_, _, rfl, rfl, _, rfl, ite2 (fun b => ?_) fun b => ?_⟩
        · refine out fun z => ?_
          have := of_decide_eq_false (show decide ((xs.length : Int) ≤ 8) = false by simpa using b)
          omega
        · refine ⟨rfl, rfl, sts, rfl, a', ?_⟩
          have := of_decide_eq_true (show decide ((xs.length : Int) ≤ 8) = true by simpa using b)
          omega
      · refine ⟨_, rfl, ite2 (fun b => ?_) fun b => absurd rfl b⟩
        refine out fun z => ?_
        have := of_decide_eq_false (Bool.eq_false_iff.mpr a)
        omega
  rintro σ Hx ⟨rfl, rfl, sts, rfl, l1, l8⟩
  obtain ⟨t, xs, rfl, hx, al⟩ := Dp.tupOf hd
  have lxs := DpAll.len al
  refine ⟨fun σ Hy => σ = [some (.ref t), none, none, none, none] ∧ Same Hx Hy ∧ sts.all (isState sts.length) = true, ?_, ?_⟩
  · refine ⟨_, rfl, t, rfl, ⟨_, hx⟩, ?_⟩
    intro dd dd0
    refine lc_tup (K := K) (a := t) (xs := xs) (fun i Hw => ∃ zs : List V, Hw dd = some (.lst zs) ∧ zs.length ≤ i ∧ zs.isEmpty = (sts.take i).all (isState sts.length) ∧ Same Hx Hw) ⟨[], upd_same, Nat.le_refl _, rfl, same_new dd0⟩ (fun i Hw _ ⟨_, _, _, _, sw⟩ => same_sqT sw hx) ?_ ?_
    · rintro j y Hw hj ⟨zs, x1, x2, x3, sw⟩
      have hjl := (List.getElem?_eq_some_iff.mp hj).1
      have hjs : j < sts.length := by omega
      have e2 : sts[j]? = some sts[j] := List.getElem?_eq_getElem hjs
      obtain ⟨v', ev, hv⟩ := DpAll.get al e2
      rw [hj] at ev
      obtain rfl := Option.some.inj ev
      have et : sts.take (j + 1) = sts.take j ++ [sts[j]] := by rw [List.take_succ, e2]; rfl
      refine ⟨rfl, ?_⟩
      refine ⟨_, rfl, _, rfl, _, _, rfl, .inr (same_sqT sw hx), y, sts[j], sts.length, by rw [lxs]; rfl, Dp.same sw hv, ?_, ?_⟩
      · have := wtAll_mem (List.getElem_mem hjs)
        simp only [wt] at sz
        omega
      intro Hv sv
      refine ⟨_, rfl, ite2 (fun r => ?_) fun r => ?_⟩
      · have r' : isState sts.length sts[j] = false := by simpa using r
        refine ⟨_, rfl, zs, sv _ _ x1, ?_, zs ++ [y], upd_same, by rw [List.length_append]; exact Nat.add_le_add_right x2 1, ?_, ?_⟩
        · have : 100000 ≤ sizeLine := by decide
          omega
        · rw [et, List.all_append, List.all_cons, r', Bool.false_and, Bool.and_false]
          cases zs <;> rfl
        · intro p o e
          rw [upd_ne (ne_of_none e dd0)]
          exact sv _ _ (sw _ _ e)
      · have r' : isState sts.length sts[j] = true := by simpa using r
        refine ⟨zs, sv _ _ x1, by omega, ?_, sw.trans sv⟩
        rw [et, List.all_append, x3, List.all_cons, r', List.all_nil]
        simp only [Bool.and_true]
    · rintro Hw ⟨zs, x1, x2, x3, sw⟩
      rw [lxs, List.take_length] at x3
      refine ⟨(by show 0 ≤ sizeLine; decide), ?_⟩
      (intro nl nl0; generalize hh_ : upd _ nl _ = Hv; have hnl := upd_is hh_; have sv := same_is hh_ nl0; clear hh_)
      refine ⟨dd, nl, zs, rfl, rfl, SqL.of (sv _ _ x1), SqL.of hnl, _, rfl, ite2 (fun r => ?_) fun r => ?_⟩
      · have kk := k Hv (sw.trans sv)
        rw [isMach_all (by rw [← x3]; simpa using r)] at kk
        exact kk
      · exact ⟨rfl, sw.trans sv, by rw [← x3]; simpa using r⟩
  rintro σ Hy ⟨rfl, sy, ok⟩
  have en : ((xs.length : Int)).toNat = sts.length := by omega
  have nx : ∀ i j, i < sts.length → nextW sts i = some j → j < sts.length := fun i j hi h => nextW_lt ok hi h
  have eM := isMach_eq l1 l8 ok
  rw [ring_eq l8 nx] at eM
  refine ⟨fun σ Hz => Same Hx Hz ∧ ∀ i, i < sts.length → runF sts 9 i = none, ?_, ?_⟩
  · refine ⟨_, rfl, _, _, rfl, .inr (same_sqT sy hx), _, rfl, by omega, by omega, ?_⟩
    rw [en]
    refine for_range (lo := 0) (n := sts.length) (fun j σ Hz => ∃ k1 k2 k3 : Option V, σ = [some (.ref t), k1, k2, k3, none] ∧ Same Hx Hz ∧ ∀ i, i < j → runF sts 9 i = none) ⟨_, _, _, rfl, sy, fun i hi => by omega⟩ ?_ ?_
    · rintro j σ Hz hj ⟨k1, k2, k3, rfl, sz', none_⟩
      refine ⟨_, rfl, ?_⟩
      refine ⟨_, rfl, by decide, by decide, ?_⟩
      rw [show ((9 : Int)).toNat = 9 from rfl]
      refine for_range (lo := 0) (n := 9) (fun m σ Hw => ∃ (v : V) (k3 : Option V), σ = [some (.ref t), some (.int (0 + j)), some v, k3, none] ∧ Same Hx Hw ∧ ((∃ c : Nat, v = .int c ∧ c < sts.length ∧ runF sts m j = some c) ∨ (runF sts m j = none ∧ (v = .non ∨ ∃ s, v = .str s)))) ?_ ?_ ?_
      · exact ⟨_, _, rfl, sz', .inl ⟨j, by rw [Int.zero_add], hj, rfl⟩⟩
      · rintro m σ Hw _ ⟨v, k3, rfl, sw, at_⟩
        rcases at_ with ⟨c, rfl, hc, run⟩ | ⟨run, e⟩
        · refine ⟨_, rfl, .int c, .int c, rfl, .int _, _, rfl, ite2 (fun _ => ?_) fun z => absurd rfl z⟩
          refine ⟨_, rfl, _, rfl, .ref t, sts, sts.length, c, "wait", rfl, hf.same sw, ok, hc, ?_⟩
          intro Hv v sv hv
          rw [leadR_wait] at hv
          refine ⟨v, _, rfl, sw.trans sv, ?_⟩
          have run1 : runF sts (m + 1) j = nextW sts c := by show (runF sts m j).bind _ = _; rw [run]; rfl
          rcases stepD_wait ok hc with e | ⟨s, hs, e⟩ | ⟨q, hq, e⟩
          · rw [e] at hv
            refine .inr ⟨by rw [run1]; unfold nextW; rw [e], .inl ?_⟩
            cases hv; rfl
          · rw [e] at hv
            refine .inr ⟨by rw [run1]; unfold nextW; rw [e], .inr ⟨s, ?_⟩⟩
            cases hv; rfl
          · rw [e] at hv
            refine .inl ⟨q, by cases hv; rfl, hq, ?_⟩
            rw [run1]
            unfold nextW
            rw [e]
            rfl
        · have run1 : runF sts (m + 1) j = none := by show (runF sts m j).bind _ = _; rw [run]; rfl
          have done : ∃ (v' : V) (k3' : Option V), [some (.ref t), some (.int (0 + j)), some .non, some (.int (0 + m)), none] = [some (.ref t), some (.int (0 + j)), some v', k3', none] ∧ Same Hx Hw ∧ ((∃ c : Nat, v' = .int c ∧ c < sts.length ∧ runF sts (m + 1) j = some c) ∨ (runF sts (m + 1) j = none ∧ (v' = .non ∨ ∃ s, v' = .str s))) := ⟨.non, _, rfl, sw, .inr ⟨run1, .inl rfl⟩⟩
          rcases e with rfl | ⟨s, rfl⟩
          · exact ⟨_, rfl, .non, .none, rfl, .non, _, rfl, ite2 (fun z => by cases z) fun _ => done⟩
          · exact ⟨_, rfl, .str s, .str s, rfl, .str _, _, rfl, ite2 (fun z => by cases z) fun _ => done⟩
      · rintro σ Hw ⟨v, k3, rfl, sw, at_⟩
        rcases at_ with ⟨c, rfl, hc, run⟩ | ⟨run, e⟩
        · refine ⟨_, rfl, _, rfl, ite2 (fun _ => ?_) fun z => absurd rfl z⟩
          refine ⟨_, rfl, .int c, .int c, rfl, .int _, _, rfl, ite2 (fun _ => ?_) fun z => absurd rfl z⟩
          have kk := k Hw sw
          rw [eM, show ((List.range sts.length).any fun i => (runF sts 9 i).isSome) = true by
            rw [List.any_eq_true]
            exact ⟨j, List.mem_range.mpr hj, by rw [run]; rfl⟩] at kk
          exact kk
        · have done : ∃ k1 k2 k3' : Option V, [some (.ref t), some (.int (0 + j)), some v, k3, none] = [some (.ref t), k1, k2, k3', none] ∧ Same Hx Hw ∧ ∀ i, i < j + 1 → runF sts 9 i = none := by
            refine ⟨_, _, _, rfl, sw, fun i hi => ?_⟩
            by_cases e : i = j
            · rw [e]; exact run
            · exact none_ i (by omega)
          rcases e with rfl | ⟨s, rfl⟩
          · exact ⟨_, rfl, _, rfl, ite2 (fun z => by cases z) fun _ => ite2 (fun z => by cases z) fun _ => done⟩
          · refine ⟨_, rfl, _, rfl, ite2 (fun _ => ?_) fun z => absurd rfl z⟩
            exact ⟨_, rfl, .str s, .str s, rfl, .str _, _, rfl, ite2 (fun z => by cases z) fun _ => done⟩
    · rintro σ Hz ⟨k1, k2, k3, rfl, sz', none_⟩
      exact ⟨sz', none_⟩
  rintro σ Hz ⟨sz', none_⟩
  have kk := k Hz sz'
  rw [eM, show ((List.range sts.length).any fun i => (runF sts 9 i).isSome) = false by
    rw [List.any_eq_false]
    intro i hi
    rw [none_ i (List.mem_range.mp hi)]
    exact Bool.false_ne_true] at kk
  exact kk
end
end SG
/-! how long data is when shown -/
namespace SG
open PySem PySem.Spec PyProof.Rows L2
mutual
def gd : PyData → Bool
  | .none | .bool _ => true
  | .int i => decide (i.natAbs < 10 ^ 61)
  | .str x => x.cps.toList.all fun c => decide (c < 1000)
  | .list xs | .tuple xs => gdAll xs
  | .dict _ => false
def gdAll : List PyData → Bool
  | [] => true
  | x :: xs => gd x && gdAll xs
end
theorem log_small {m : Nat} (h : m < 10 ^ 61) : m.log2 < 1920 := by
  by_cases e : m = 0
  · subst e; decide
  · rw [Nat.log2_lt e]
    exact Nat.lt_of_lt_of_le h (by decide)
mutual
theorem gd_show : ∀ {d : PyData}, gd d = true → d.showable = true
  | .none, _ => rfl
  | .bool _, _ => rfl
  | .str _, _ => rfl
  | .int i, h => by
    have h' : decide (i.natAbs < 10 ^ 61) = true := h
    exact decide_eq_true (log_small (of_decide_eq_true h'))
  | .list xs, h => gdAll_show (ds := xs) h
  | .tuple xs, h => gdAll_show (ds := xs) h
  | .dict _, h => by cases h
theorem gdAll_show : ∀ {ds : List PyData}, gdAll ds = true → PyData.showableAll ds = true
  | [], _ => rfl
  | d :: ds, h => by
    have h' : (gd d && gdAll ds) = true := h
    rw [Bool.and_eq_true] at h'
    show (PyData.showable d && PyData.showableAll ds) = true
    rw [gd_show h'.1, gdAll_show h'.2]; rfl
end
theorem textFrom_up : ∀ (ts : List Str) (k : Nat) (acc : Str), (textFrom k acc ts).length ≤ acc.length + (ts.map fun t => t.length + 2).sum
  | [], k, acc => by simp [textFrom]
  | t :: r, k, acc => by
    have ih := textFrom_up r (k + 1) (acc ++ (if k > 0 then ", " else "" : String) ++ t)
    have e : (acc ++ ((if k > 0 then ", " else "" : String) : Str) ++ t).length ≤ acc.length + 2 + t.length := by
      rw [Str.length_append, Str.length_append]
      by_cases h : k > 0
      · rw [if_pos h]; show _ + 2 + _ ≤ _; omega
      · rw [if_neg h]; show _ + 0 + _ ≤ _; omega
    show (textFrom (k + 1) _ r).length ≤ _
    rw [List.map_cons, List.sum_cons]
    omega
theorem join_up : ∀ ts : List Str, (Str.join ", " ts).length ≤ (ts.map fun t => t.length + 2).sum
  | [] => by decide
  | t :: r => by
    have h := join_length_add (t :: r) (by simp)
    have p : ∀ l : List Str, piled l = (l.map fun t => t.length + 2).sum := by
      intro l
      induction l with
      | nil => rfl
      | cons a l ih => simp [piled, ih]
    rw [p] at h
    omega
theorem int_text {i : Int} (h : i.natAbs < 10 ^ 61) : (Str.ofString (toString i)).length ≤ 62 := by
  by_cases h0 : 0 ≤ i
  · have := toString_length_le h0 (k := 61) (by decide) (by omega)
    omega
  · have hp : 0 ≤ -i := by omega
    have h1 := toString_length_le hp (k := 61) (by decide) (by omega)
    cases i with
    | ofNat n => exact absurd (Int.natCast_nonneg n) h0
    | negSucc n =>
      have e1 : toString (Int.negSucc n) = "-" ++ toString (n + 1) := rfl
      have e2 : toString (-(Int.negSucc n)) = toString (n + 1) := rfl
      rw [e2, PyProof.Rows.ofString_length] at h1
      rw [e1, PyProof.Rows.ofString_length, String.toList_append, List.length_append]
      have : ("-" : String).toList.length = 1 := rfl
      omega
mutual
theorem shown_le : ∀ {d : PyData}, gd d = true → d.shown.length ≤ wt d
  | .none, _ => by show (4 : Nat) ≤ 70; omega
  | .bool b, _ => by cases b <;> decide
  | .int i, h => by
    have h' : decide (i.natAbs < 10 ^ 61) = true := h
    have := int_text (of_decide_eq_true h')
    show (Str.ofString (toString i)).length ≤ 70
    omega
  | .str x, h => by
    have h' : (x.cps.toList.all fun c => decide (c < 1000)) = true := h
    have := StrLaws.reprText_len x fun c hc => Nat.lt_trans (of_decide_eq_true (List.all_eq_true.mp h' c hc)) (by decide)
    show (reprText x).length ≤ 70 + 10 * x.length
    omega
  | .list xs, h => by
    have := shownAll_le (ds := xs) h
    have q := textFrom_up (PyData.shownAll xs) 0 "["
    show (listText (PyData.shownAll xs)).length ≤ 10 + wtAll xs
    unfold listText
    rw [Str.length_append]
    have e1 : ("[" : Str).length = 1 := rfl
    have e2 : ("]" : Str).length = 1 := rfl
    omega
  | .tuple xs, h => by
    have := shownAll_le (ds := xs) h
    have q := join_up (PyData.shownAll xs)
    show (tupleText (PyData.shownAll xs)).length ≤ 10 + wtAll xs
    unfold tupleText
    rw [Str.length_append, Str.length_append]
    have e1 : ("(" : Str).length = 1 := rfl
    have e2 : (((if (PyData.shownAll xs).length == 1 then ",)" else ")" : String) : Str)).length ≤ 2 := by
      split
      · show 2 ≤ 2; omega
      · show 1 ≤ 2; omega
    omega
  | .dict _, h => by cases h
theorem shownAll_le : ∀ {ds : List PyData}, gdAll ds = true → ((PyData.shownAll ds).map fun t => t.length + 2).sum ≤ wtAll ds
  | [], _ => Nat.le_refl _
  | d :: ds, h => by
    have h' : (gd d && gdAll ds) = true := h
    rw [Bool.and_eq_true] at h'
    have a := shown_le h'.1
    have b := shownAll_le h'.2
    show ((PyData.shown d :: PyData.shownAll ds).map fun t => t.length + 2).sum ≤ wt d + 2 + wtAll ds
    rw [List.map_cons, List.sum_cons]
    omega
end
end SG
namespace SG
open PySem PySem.Spec PyProof.Rows L2
def spAgrees (K : PySem.W.Frag) : Sp := fun vs H Q _ => ∃ (x : V) (d : PyData), vs = [x] ∧ Fz K H x d ∧ gd d = true ∧ wt d ≤ 48000 ∧ d.depth ≤ 200 ∧ ∀ H', Same H H' → Q (.bl true) H'
section
variable {P : Program} {w : World} {K : PySem.W.Frag} {mg : Str → Option Value} {base : Heap}
theorem ok_agrees (D : Df K mg "_law_agrees" s_law_agrees ["_law_thing"]) (T : Txt K mg) (cis_machine : Cl P w K mg base 4 "is_machine" (spMach K)) (c_law_is_machine : Cl P w K mg base 3 "_law_is_machine" (spMachF K)) : ClG P w K mg base 5 "_law_agrees" (spAgrees K) := by
  refine D.okG sc_law_agrees (fun vs H Q E h => ?_) (fun f cdv A outer s H vs Q E hr hg h => ?_)
  · obtain ⟨x, d, rfl, _⟩ := h
    rfl
  obtain ⟨x, d, rfl, hf, g, sz, dep, k⟩ := h
  have hu := hu_of hr
  have hgd := guards_in (q := "_law_agrees") (sc := defScope s_law_agrees) (n := s.heap.objs.size) (f := f) (c := cdv) hg
  have sh := gd_show g
  have ln : d.shown.length ≤ sizeLine := Nat.le_trans (shown_le g) (Nat.le_trans sz (by decide))
  refine ⟨_, -- _law_kept = repr(_law_thing)
    (pss_cons (ps_set (i := 1) sc_law_agrees.nd rfl (Or.inl rfl) (pe_callB (call_reprD hgd (hrep_of hr)) (by rfl) T.m_repr (by decide +kernel) (pa_cons (pv 0) pa_nil)))
    (pss_cons (ps_set (i := 2) sc_law_agrees.nd rfl (Or.inl rfl) (pe_cl cis_machine (hr.mono (by first | decide | omega)) rfl (pa_cons (pv 0) pa_nil)))
    (pss_one (ps_ret (pe_and (pe_callB call_isBool (by rfl) T.m_isinstance (by decide +kernel) (pa_cons (pv 2) (pa_cons (pe_bltn (v := .ty "bool") (u := .type "bool") (by rfl) T.m_bool (by decide +kernel) rfl) pa_nil))) (pe_and (pe_cmpR op_eq (pv 2) (pe_cl c_law_is_machine (hr.mono (by first | decide | omega)) rfl (pa_cons (pv 0) pa_nil)) (nomark _)) (pe_one (pe_cmpR op_eq (pe_callB (call_reprD hgd (hrep_of hr)) (by rfl) T.m_repr (by decide +kernel) (pa_cons (pv 0) pa_nil)) (pv 1) (nomark _))))))))), ?_⟩
  refine ⟨_, rfl, x, d, rfl, hf.dp, sh, ln, dep, ?_⟩
  refine ⟨_, rfl, x, d, rfl, hf.dp, sz, fun H1 s1 => ?_⟩
  refine ⟨_, rfl, .bl (isMach d), .bool (isMach d), rfl, .bl _, _, rfl, ite2 (fun _ => ?_) fun z => absurd rfl z⟩
  refine ⟨_, rfl, _, rfl, x, d, rfl, hf.same s1, sz, fun H2 s2 => ?_⟩
  refine ⟨rfl, _, rfl, ite2 (fun _ => ?_) fun z => absurd (decide_eq_true rfl) z⟩
  refine ⟨_, rfl, x, d, rfl, (hf.same (s1.trans s2)).dp, sh, ln, dep, _, rfl, rfl, ?_⟩
  have kk := k H2 (s1.trans s2)
  rw [← decide_eq_true (rfl : V.str d.shown = V.str d.shown)] at kk
  exact kk
end
end SG
namespace SG
open PySem PySem.Spec PyProof.Rows L2
/-! ### the tape -/
def tapeD (c : Addr) (s l : Int) : List (Key × V) := [(Sum.inr "cells", .ref c), (Sum.inr "spot", .int s), (Sum.inr "left", .int l)]
theorem k12 : ¬ (Sum.inr ("cells" : Str) : Key) = Sum.inr ("spot" : Str) := by decide +kernel
theorem k13 : ¬ (Sum.inr ("cells" : Str) : Key) = Sum.inr ("left" : Str) := by decide +kernel
theorem k23 : ¬ (Sum.inr ("spot" : Str) : Key) = Sum.inr ("left" : Str) := by decide +kernel
theorem k32 : ¬ (Sum.inr ("left" : Str) : Key) = Sum.inr ("spot" : Str) := by decide +kernel
theorem n12 : ¬ ("cells" : Str) = ("spot" : Str) := by decide +kernel
theorem n13 : ¬ ("cells" : Str) = ("left" : Str) := by decide +kernel
theorem n23 : ¬ ("spot" : Str) = ("left" : Str) := by decide +kernel
theorem n32 : ¬ ("left" : Str) = ("spot" : Str) := by decide +kernel
theorem len3 {c : Addr} {s l : Int} : (tapeD c s l).length < sizeLine := by show 3 < sizeLine; decide
/-- a tape stands at t, of which at most n cells were taken -/
def TapeAt (H : Hp) (t c : Addr) (n : Nat) : Prop :=
  ∃ (cs : List Int) (s l : Int), H t = some (.dK (tapeD c s l)) ∧ H c = some (.lst (cs.map V.int)) ∧ 0 ≤ s ∧ s ≤ (n : Int) ∧ 0 ≤ l ∧ cs.length ≤ 63
section
variable {K : PySem.W.Frag} {H H' : Hp} {t c : Addr} {s l v : Int} {n m : Nat}
theorem tape_cells (h : H t = some (.dK (tapeD c s l))) : DGet H t (.str "cells") (some (.ref c)) := DGet.k (k := Sum.inr "cells") h
theorem tape_spot (h : H t = some (.dK (tapeD c s l))) : DGet H t (.str "spot") (some (.int s)) := by
  have e : valV (tapeD c s l) (Sum.inr ("spot" : Str) : Key) = some (.int s) := by
    unfold tapeD
    rw [valV_neg k12, valV_pos rfl]
  have q := DGet.k (k := Sum.inr "spot") h
  rw [e] at q
  exact q
theorem tape_left (h : H t = some (.dK (tapeD c s l))) : DGet H t (.str "left") (some (.int l)) := by
  have e : valV (tapeD c s l) (Sum.inr ("left" : Str) : Key) = some (.int l) := by
    unfold tapeD
    rw [valV_neg k13, valV_neg k23, valV_pos rfl]
  have q := DGet.k (k := Sum.inr "left") h
  rw [e] at q
  exact q
theorem key_ne {a b : Str} (h : ¬ a = b) : ¬ (Sum.inr a : Key) = Sum.inr b := fun e => h (Sum.inr.inj e)
theorem tape_put_left (h : H t = some (.dK (tapeD c s l))) : DPut H t (.str "left") (.int v) (upd H t (.dK (tapeD c s v))) := by
  have e : putK (tapeD c s l) (Sum.inr ("left" : Str) : Key) (.int v) = tapeD c s v := by
    simp [putK, tapeD, n13, n23]
  have q := DPut.k (k := Sum.inr "left") (v := .int v) h len3
  rw [e] at q
  exact q
theorem tape_put_spot (h : H t = some (.dK (tapeD c s l))) : DPut H t (.str "spot") (.int v) (upd H t (.dK (tapeD c v l))) := by
  have e : putK (tapeD c s l) (Sum.inr ("spot" : Str) : Key) (.int v) = tapeD c v l := by
    simp [putK, tapeD, n12, n32]
  have q := DPut.k (k := Sum.inr "spot") (v := .int v) h len3
  rw [e] at q
  exact q
/-- a list is no dict: it stays where only a dict changes -/
theorem sq_ne {xs : List V} {kvs : List (Key × V)} (hc : SqL K H c xs) (ht : H t = some (.dK kvs)) (f : Fr [t] H H') : SqL K H' c xs := by
  rcases hc with (h | ⟨o, h⟩) | h
  · exact .inl (.inl (f _ _ h (by simp only [List.mem_singleton]; exact ne_of h ht (by intro z; cases z))))
  · exact .inl (.inr ⟨o, f _ _ h (by simp only [List.mem_singleton]; exact ne_of h ht (by intro z; cases z))⟩)
  · exact .inr h
theorem TapeAt.mono (h : TapeAt H t c n) (q : n ≤ m) : TapeAt H t c m := by
  obtain ⟨cs, s, l, h1, h2, h3, h4, h5, h6⟩ := h
  exact ⟨cs, s, l, h1, h2, h3, by omega, h5, h6⟩
theorem TapeAt.same (h : TapeAt H t c n) (q : Same H H') : TapeAt H' t c n := by
  obtain ⟨cs, s, l, h1, h2, h3, h4, h5, h6⟩ := h
  exact ⟨cs, s, l, q _ _ h1, q _ _ h2, h3, h4, h5, h6⟩
theorem TapeAt.tp (h : TapeAt H t c n) (q : Fr [t] H H') : Tp H H' := fun b xs e => by
  obtain ⟨cs, s, l, h1, h2, h3, h4, h5, h6⟩ := h
  exact q _ _ e (by simp only [List.mem_singleton]; exact ne_of e h1 (by intro z; cases z))
theorem TapeAt.is (h : TapeAt H t c n) : ∃ kvs, H t = some (.dK kvs) := by
  obtain ⟨cs, s, l, h1, _⟩ := h
  exact ⟨_, h1⟩
theorem at_of' {α : Type} {xs : List α} {z : Int} {j : Nat} {v : α} (e : z = (j : Int)) (h : xs[j]? = some v) : atI xs z = some v := by
  rw [e]
  exact atI_nat h
theorem at_in {α : Type} {xs : List α} {i : Int} (h0 : 0 ≤ i) (h1 : i < xs.length) : ∃ x, x ∈ xs ∧ atI xs i = some x := by
  have hk : i.toNat < xs.length := by omega
  refine ⟨xs[i.toNat], List.getElem_mem hk, ?_⟩
  exact at_of' (j := i.toNat) (by omega) (List.getElem?_eq_getElem hk)
theorem at_ints {cs : List Int} {i : Int} (h0 : 0 ≤ i) (h1 : i < cs.length) : ∃ z, atI (cs.map V.int) i = some (.int z) := by
  obtain ⟨x, hx, e⟩ := at_in (xs := cs.map V.int) h0 (by rw [List.length_map]; exact h1)
  obtain ⟨z, _, rfl⟩ := List.mem_map.mp hx
  exact ⟨z, e⟩
/-- cells or [0] -/
theorem or_new {σ : L2.St} {Q : VK} {cs : List Int} (hS : SqL K H c (cs.map V.int)) (hl : cs.length ≤ 63)
    (k : ∀ c' cs' H', Same H H' → 0 < cs'.length → cs'.length ≤ 63 → SqL K H' c' (List.map V.int cs') → Q (.ref c') H') :
    ∃ b, TruV K (.ref c) H b ∧ if b = true then Q (.ref c) H else tLst (tCons (tC (.int 0)) tNil) σ H Q := by
  refine ⟨_, Or.inl ⟨_, hS, rfl⟩, ?_⟩
  cases cs with
  | nil =>
    refine iteF ?_
    refine ⟨(by show 1 ≤ sizeLine; decide), fun p hp => ?_⟩
    exact k p [0] _ (same_new hp) (by decide) (by decide) (SqL.of upd_same)
  | cons z r =>
    refine iteT ?_
    exact k c (z :: r) H (Same.refl H) (by simp) hl hS
end
section
variable {K : PySem.W.Frag} {H H' H1 : Hp} {t c p : Addr} {n m : Nat}
theorem Fr.one {S : List Addr} {o : HO} (f : Fr S H H') (h : H p = some o) (hn : p ∉ S) : H' p = some o := f p o h hn
theorem TapeAt.ne_new (h : TapeAt H t c n) (hp : H p = none) : p ≠ t := by
  obtain ⟨kvs, e⟩ := h.is
  exact fun z => by rw [z, e] at hp; cases hp
theorem TapeAt.ne_lst {xs : List V} (h : TapeAt H t c n) (hp : H p = some (.lst xs)) : p ≠ t := by
  obtain ⟨kvs, e⟩ := h.is
  exact ne_of hp e (by intro z; cases z)
theorem TapeAt.ne_tup {xs : List V} (h : TapeAt H t c n) (hp : H p = some (.tup xs)) : p ≠ t := by
  obtain ⟨kvs, e⟩ := h.is
  exact ne_of hp e (by intro z; cases z)
theorem not_in_one {a b : Addr} (h : a ≠ b) : a ∉ [b] := by simpa using h
theorem sl1000 {n : Nat} (h : n ≤ 1000) : n ≤ sizeLine := Nat.le_of_lt (small1000 h)
theorem TapeAt.ne_newc (h : TapeAt H t c n) (hp : H p = none) : p ≠ c := by
  obtain ⟨cs, s, l, h1, h2, h3, h4, h5, h6⟩ := h
  exact fun z => by rw [z, h2] at hp; cases hp
theorem TapeAt.ne_tupc {xs : List V} (h : TapeAt H t c n) (hp : H p = some (.tup xs)) : p ≠ c := by
  obtain ⟨cs, s, l, h1, h2, h3, h4, h5, h6⟩ := h
  exact ne_of hp h2 (by intro z; cases z)
theorem TapeAt.ne_dctc {xs : List (Key × V)} (h : TapeAt H t c n) (hp : H p = some (.dK xs)) : p ≠ c := by
  obtain ⟨cs, s, l, h1, h2, h3, h4, h5, h6⟩ := h
  exact ne_of hp h2 (by intro z; cases z)
theorem TapeAt.put {o : HO} (h : TapeAt H t c n) (h1 : p ≠ t) (h2 : p ≠ c) : TapeAt (upd H p o) t c n := by
  obtain ⟨cs, s, l, e1, e2, r⟩ := h
  exact ⟨cs, s, l, by rw [upd_ne h1.symm]; exact e1, by rw [upd_ne h2.symm]; exact e2, r⟩
end
/-! ### a draw -/
def spDraw : Sp := fun vs H Q _ => ∃ (t c : Addr) (m : Int) (n : Nat), vs = [.ref t, .int m] ∧ TapeAt H t c n ∧ (1 ≤ m ∧ m ≤ 1000000) ∧ n ≤ 1000000000 ∧
  ∀ (r : Int) (H' : Hp), (0 ≤ r ∧ r < m) → TapeAt H' t c (n + 1) → Fr [t] H H' → Q (.int r) H'
theorem pw18 : CPowG 10 18 := ⟨by decide, by decide +kernel⟩
theorem pw6e : (10 : Int) ^ (6 : Int).toNat = 1000000 := by decide
theorem pw6 : CPowG 10 6 := ⟨by decide, by decide +kernel⟩
theorem pw50 : CPowG 10 50 := ⟨by decide, by decide +kernel⟩
theorem pw60 : CPowG (10 ^ (50 : Int).toNat) 60 := ⟨by decide, by decide +kernel⟩
theorem pw10 : CPowG ((10 ^ (50 : Int).toNat) ^ (60 : Int).toNat) 10 := ⟨by decide, by decide +kernel⟩
theorem big_pos : (0 : Int) < ((10 ^ (50 : Int).toNat) ^ (60 : Int).toNat) ^ (10 : Int).toNat := Int.pow_pos (Int.pow_pos (Int.pow_pos (by decide)))
section
variable {P : Program} {w : World} {K : PySem.W.Frag} {mg : Str → Option Value} {base : Heap}
theorem ok_draw (D : Df K mg "_law_draw" s_law_draw ["_law_tape_here", "_law_many"]) (T : Txt K mg) : Cl P w K mg base 1 "_law_draw" spDraw := by
  refine D.ok sc_law_draw (fun vs H Q E h => ?_) (fun f cdv A outer s H vs Q E hr h => ?_)
  · obtain ⟨t, c, m, n, rfl, _⟩ := h
    rfl
  obtain ⟨t, c, m, n, rfl, ⟨cs, s, l, ht, hcl, s0, sn, l0, h63⟩, ⟨m1, m6⟩, hn, k⟩ := h
  have hu := hu_of hr
  have hc : SqL K H c (cs.map V.int) := SqL.of hcl
  have ctn : c ∉ [t] := by simp only [List.mem_singleton]; exact ne_of hcl ht (by intro z; cases z)
  refine ⟨_, -- if _law_tape_here['left'] == 0:
    (C8.pss_cut (ps_if (pt_cmpR op_eq (pe_dget hu (pv 0) pe_str (fun _ _ => rfl)) pe_int (nomark _))
      (pss_cons (ps_par (i := 2) (j := 3) rfl sc_law_draw.nd rfl rfl (by decide) rfl rfl (pa_cons (pe_dget hu (pv 0) pe_str (fun _ _ => rfl)) (pa_cons (pe_orT (pe_dget hu (pv 0) pe_str (fun _ _ => rfl)) (pe_one (pe_lst (pa_cons pe_int pa_nil)))) pa_nil)) rfl)
      (pss_cons (ps_asg (pe_tupF (pa_cons (pe_ix ix_list (pv 3) (pe_op op_mod (pv 2) (pe_callB call_len_seq (by rfl) T.m_len PySem.boot_len (pa_cons (pv 3) pa_nil))) (fun _ _ => rfl)) (pa_cons (pe_op op_add (pv 2) pe_int) pa_nil))) (pg_tup rfl (pgs_cons (pg_name (i := 4) sc_law_draw.nd rfl (Or.inl rfl)) (pgs_cons (pg_sub (pv 0) pe_str (set_dict hu)) pgs_nil))))
      (C8.pss_cut (ps_if (PW.pt (pw_and (pt_cmpR op_gt (pv 4) (pe_op op_powG pe_int pe_int) (nomark _)) (pw_and1 (pt_cmpR op_lt (pv 2) (pe_callB call_len_seq (by rfl) T.m_len PySem.boot_len (pa_cons (pv 3) pa_nil)) (nomark _)))))
        (pss_one (ps_dput hu (pv 0) pe_str (pe_op op_mod (pe_op op_sub (pv 4) (pe_op op_powG pe_int pe_int)) (pe_op op_powG (pe_op op_powG (pe_op op_powG pe_int pe_int) pe_int) pe_int)) rfl))
        pss_nil)
      (pss_one (ps_if (pt_cmpR op_eq (pe_dget hu (pv 0) pe_str (fun _ _ => rfl)) pe_int (nomark _))
        (pss_cons (ps_set (i := 5) sc_law_draw.nd rfl (Or.inl rfl) (pe_op op_add (pe_op op_mul (pe_op op_mod (pv 4) pe_int) pe_int) (pe_op op_mul (pe_op op_mul pe_int (pv 2)) (pv 2))))
        (pss_cons (ps_set (i := 5) sc_law_draw.nd rfl (Or.inl rfl) (pe_op op_mod (pe_op op_add (pe_op op_add (pv 5) (pe_op op_mul pe_int (pv 2))) pe_int) pe_int))
        (pss_cons (ps_set (i := 5) sc_law_draw.nd rfl (Or.inl rfl) (pe_op op_mod (pe_op op_mul (pv 5) (pe_op op_add (pv 5) pe_int)) pe_int))
        (pss_one (ps_ret (pe_op op_mod (pe_op op_fdiv (pe_op op_mod (pe_op op_mul (pv 5) (pv 5)) pe_int) pe_int) (pv 1)))))))
        pss_nil)))))
      pss_nil)
    (pss_cons (ps_asg (pe_tupF (pa_cons (pe_op op_mod (pe_dget hu (pv 0) pe_str (fun _ _ => rfl)) (pv 1)) (pa_cons (pe_op op_fdiv (pe_dget hu (pv 0) pe_str (fun _ _ => rfl)) (pv 1)) pa_nil))) (pg_tup rfl (pgs_cons (pg_name (i := 6) sc_law_draw.nd rfl (Or.inl rfl)) (pgs_cons (pg_sub (pv 0) pe_str (set_dict hu)) pgs_nil))))
    (pss_one (ps_ret (pv 6))))), ?_⟩
  refine ⟨fun σ Hx => ∃ (k2 k3 k4 k5 : Option V) (s' l' : Int), σ = [some (.ref t), some (.int m), k2, k3, k4, k5, none] ∧ Hx t = some (.dK (tapeD c s' l')) ∧ 0 ≤ s' ∧ s' ≤ n + 1 ∧ 0 ≤ l' ∧ Fr [t] H Hx, ?_, ?_⟩
  · refine ⟨_, rfl, t, _, rfl, tape_left ht, rfl, _, rfl, ite2 (fun p => ?_) (fun p => ⟨none, none, none, none, s, l, rfl, ht, s0, by omega, l0, Fr.refl _ _⟩)⟩
    refine ⟨_, rfl, t, _, rfl, tape_spot ht, _, rfl, t, _, rfl, tape_cells ht, or_new hc h63 fun c2 cs2 H2 sm2 p2 l2 hc2 => ?_⟩
    have ht2 := sm2 _ _ ht
    refine ⟨_, _, rfl, ?_⟩
    have hl2 : (cs2.map V.int).length = cs2.length := List.length_map _
    have i0 : 0 ≤ s % (((cs2.map V.int).length : Nat) : Int) := Int.emod_nonneg _ (by omega)
    have i1 : s % (((cs2.map V.int).length : Nat) : Int) < (cs2.length : Int) := by
      rw [hl2]
      exact Int.emod_lt_of_pos _ (by omega)
    obtain ⟨cell, hcell⟩ := at_ints i0 i1
    refine ⟨_, rfl, _, rfl, _, rfl, c2, _, rfl, .inl hc2, _, _, rfl, rfl, (by rw [hl2]; omega), c2, _, _, _, rfl, rfl, hc2, hcell, _, rfl, _, _, rfl, rfl, (by show 2 ≤ sizeLine; decide), fun q o q0 _ => ?_⟩
    generalize hH : upd H2 q (.frz o (.tup [.int cell, .int (s + 1)])) = H3
    have s3 : Same H2 H3 := by rw [← hH]; exact same_new q0
    have at3 : SqT K H3 q [.int cell, .int (s + 1)] := .inl (.inr ⟨o, by rw [← hH]; exact upd_same⟩)
    have ht3 := s3 _ _ ht2
    refine ⟨q, _, rfl, at3, rfl, _, _, rfl, _, _, rfl, _, rfl, t, _, rfl, tape_put_spot ht3, rfl, ?_⟩
    have f4 : Fr [t] H3 (upd H3 t (.dK (tapeD c (s + 1) l))) := Fr.put (by simp)
    have ht4 : (upd H3 t (.dK (tapeD c (s + 1) l))) t = some (.dK (tapeD c (s + 1) l)) := upd_same
    have hc4 := sq_ne (s3.seq hc2) ht3 f4
    have f04 : Fr [t] H (upd H3 t (.dK (tapeD c (s + 1) l))) := (Fr.same (sm2.trans s3) _).trans f4
    generalize (upd H3 t (.dK (tapeD c (s + 1) l))) = H4 at *
    refine ⟨fun σ Hx => σ = [some (.ref t), some (.int m), some (.int s), some (.ref c2), some (.int cell), none, none] ∧ ∃ l' : Int, Hx t = some (.dK (tapeD c (s + 1) l')) ∧ 0 ≤ l' ∧ Fr [t] H Hx, ?_, ?_⟩
    · refine ⟨_, rfl, _, _, rfl, rfl, pw18, _, _, rfl, rfl, _, rfl, ?_⟩
      have skip : [some (V.ref t), some (V.int m), some (V.int s), some (V.ref c2), some (V.int cell), none, none] = [some (V.ref t), some (V.int m), some (V.int s), some (V.ref c2), some (V.int cell), none, none] ∧ ∃ l' : Int, H4 t = some (.dK (tapeD c (s + 1) l')) ∧ 0 ≤ l' ∧ Fr [t] H H4 := ⟨rfl, l, ht4, l0, f04⟩
      refine ite2 (fun p3 => ?_) (fun p3 => ite2 (fun z => by cases z) fun _ => skip)
      refine ⟨_, rfl, _, rfl, c2, _, rfl, .inl hc4, _, _, rfl, rfl, _, rfl, ?_⟩
      refine ite2 (fun p4 => ?_) (fun p4 => skip)
      refine ⟨_, rfl, _, _, rfl, rfl, pw18, _, _, rfl, rfl, _, _, rfl, rfl, pw50, _, _, rfl, rfl, pw60, _, _, rfl, rfl, pw10, _, _, rfl, rfl, big_pos, ?_⟩
      have g0 : 0 ≤ (cell - 10 ^ (18 : Int).toNat) % ((10 ^ (50 : Int).toNat) ^ (60 : Int).toNat) ^ (10 : Int).toNat := Int.emod_nonneg _ (Int.ne_of_gt big_pos)
      dsimp only
      generalize (cell - 10 ^ (18 : Int).toNat) % ((10 ^ (50 : Int).toNat) ^ (60 : Int).toNat) ^ (10 : Int).toNat = gr at *
      refine ⟨_, rfl, t, _, rfl, tape_put_left ht4, ?_⟩
      exact ⟨rfl, gr, upd_same, g0, f04.trans (Fr.put (by simp))⟩
    · rintro σ' H5 ⟨rfl, l', ht5, l0', f05⟩
      refine ⟨_, rfl, t, _, rfl, tape_left ht5, rfl, _, rfl, ite2 (fun p3 => ?_) fun p3 => ⟨_, _, _, _, s + 1, l', rfl, ht5, by omega, by omega, l0', f05⟩⟩
      have e0 : 0 ≤ cell % 2147483647 := Int.emod_nonneg _ (by decide)
      have e1 : cell % 2147483647 < 2147483647 := Int.emod_lt_of_pos _ (by decide)
      refine ⟨_, rfl, _, _, rfl, rfl, (by show (0 : Int) < 2147483647; decide), _, _, rfl, rfl, .inr ⟨by decide, by decide⟩, ?_⟩
      refine ⟨_, rfl, _, _, rfl, rfl, .inl ⟨by decide, by decide⟩, _, rfl, _, _, rfl, rfl, .inr ⟨by omega, by omega⟩, _, _, rfl, rfl, ?_⟩
      dsimp only
      generalize cell % 2147483647 * 48271 + 7919 * s * s = sd
      refine ⟨_, rfl, _, rfl, _, _, rfl, rfl, .inl ⟨by decide, by decide⟩, _, _, rfl, rfl, _, _, rfl, rfl, _, _, rfl, rfl, (by show (0 : Int) < 2147483629; decide), ?_⟩
      dsimp only
      generalize hse : (sd + 69621 * s + 1) % 2147483629 = se
      have d0 : 0 ≤ se := by rw [← hse]; exact Int.emod_nonneg _ (by decide)
      have d1 : se < 2147483629 := by rw [← hse]; exact Int.emod_lt_of_pos _ (by decide)
      refine ⟨_, rfl, _, rfl, _, _, rfl, rfl, _, _, rfl, rfl, .inl ⟨by omega, by omega⟩, _, _, rfl, rfl, (by show (0 : Int) < 2147483587; decide), ?_⟩
      dsimp only
      generalize hsf : se * (se + 16807) % 2147483587 = sf
      have g0 : 0 ≤ sf := by rw [← hsf]; exact Int.emod_nonneg _ (by decide)
      have g1 : sf < 2147483587 := by rw [← hsf]; exact Int.emod_lt_of_pos _ (by decide)
      refine ⟨_, rfl, _, rfl, _, _, rfl, rfl, .inl ⟨by omega, by omega⟩, _, _, rfl, rfl, (by show (0 : Int) < 2147483563; decide), _, _, rfl, rfl, ⟨by decide, by decide⟩, _, rfl, _, _, rfl, rfl, (by omega), ?_⟩
      exact k _ _ ⟨Int.emod_nonneg _ (by omega), Int.emod_lt_of_pos _ (by omega)⟩ ⟨cs, s + 1, l', ht5, f05 _ _ hcl ctn, by omega, by omega, l0', h63⟩ f05
  rintro σ H1 ⟨k2, k3, k4, k5, s', l', rfl, ht1, s0', sn', l0', f01⟩
  refine ⟨_, rfl, t, _, rfl, tape_left ht1, _, rfl, _, _, rfl, rfl, (by omega), _, rfl, t, _, rfl, tape_left ht1, _, rfl, _, _, rfl, rfl, ⟨by omega, by omega⟩, (by show 2 ≤ sizeLine; decide), fun q o q0 _ => ?_⟩
  dsimp only
  generalize hH : upd H1 q (.frz o (.tup [.int (l' % m), .int (l' / m)])) = H2
  have s2 : Same H1 H2 := by rw [← hH]; exact same_new q0
  have at2 : SqT K H2 q [.int (l' % m), .int (l' / m)] := .inl (.inr ⟨o, by rw [← hH]; exact upd_same⟩)
  have ht2 := s2 _ _ ht1
  refine ⟨q, _, rfl, at2, rfl, _, _, rfl, _, _, rfl, _, rfl, t, _, rfl, tape_put_left ht2, rfl, ?_⟩
  have f02 : Fr [t] H (upd H2 t (.dK (tapeD c s' (l' / m)))) := (f01.trans (Fr.same s2 _)).trans (Fr.put (by simp))
  exact ⟨_, rfl, k _ _ ⟨Int.emod_nonneg _ (by omega), Int.emod_lt_of_pos _ (by omega)⟩ ⟨cs, s', l' / m, upd_same, f02 _ _ hcl ctn, s0', by omega, Int.ediv_nonneg l0' (by omega), h63⟩ f02⟩
end
end SG
namespace SG
open PySem PySem.Spec PyProof.Rows L2
theorem tape_is (c : Addr) (s l : Int) : mergeK [] [((Sum.inr ("cells" : Str) : Key), V.ref c), (Sum.inr ("spot" : Str), .int s), (Sum.inr ("left" : Str), .int l)] = tapeD c s l := by
  simp [mergeK, putK, tapeD, n12, n13, n23]
def spTape (K : PySem.W.Frag) : Sp := fun vs H Q _ => ∃ (a : Addr) (ns : List Int), vs = [.ref a] ∧ SqL K H a (ns.map V.int) ∧ ns.length ≤ 63 ∧ ∀ (t c : Addr) (H' : Hp), TapeAt H' t c 0 → Same H H' → Q (.ref t) H'
def spPick (K : PySem.W.Frag) : Sp := fun vs H Q _ => ∃ (t c l : Addr) (xs : List V) (n : Nat), vs = [.ref t, .ref l] ∧ TapeAt H t c n ∧ n ≤ 1000000000 ∧ H l = some (.lst xs) ∧ (1 ≤ xs.length ∧ xs.length ≤ 1000) ∧
  ∀ v H', v ∈ xs → TapeAt H' t c (n + 1) → Fr [t] H H' → Q v H'
theorem TapeAt.ne_tz {H : Hp} {t c a : Addr} {n : Nat} {xs : List V} (h : TapeAt H t c n) (z : Tz H a xs) : a ≠ t := by
  obtain ⟨kvs, e⟩ := h.is
  obtain ⟨o, z, _⟩ := z
  exact ne_of z e (by intro z; cases z)
theorem Tz.fr {H H' : Hp} {t c a : Addr} {n : Nat} {xs : List V} (h : TapeAt H t c n) (f : Fr [t] H H') (z : Tz H a xs) : Tz H' a xs := by
  have ne := h.ne_tz z
  obtain ⟨o, z, d⟩ := z
  exact ⟨o, f _ _ z (not_in_one ne), d⟩
theorem Fz.fr {K : PySem.W.Frag} {H H' : Hp} {t c : Addr} {n : Nat} {v : V} {d : PyData} (h : TapeAt H t c n) (f : Fr [t] H H') (z : Fz K H v d) : Fz K H' v d :=
  z.keep (fun a xs e => f _ _ e (not_in_one (h.ne_lst e))) fun a xs e => e.fr h f
theorem FzAll.fr {K : PySem.W.Frag} {H H' : Hp} {t c : Addr} {n : Nat} {vs : List V} {ds : List PyData} (h : TapeAt H t c n) (f : Fr [t] H H') (z : FzAll K H vs ds) : FzAll K H' vs ds :=
  z.keep (fun a xs e => f _ _ e (not_in_one (h.ne_lst e))) fun a xs e => e.fr h f
section
variable {P : Program} {w : World} {K : PySem.W.Frag} {mg : Str → Option Value} {base : Heap}
theorem ok_tape (D : Df K mg "_law_tape" s_law_tape ["_law_script"]) (T : Txt K mg) : Cl P w K mg base 1 "_law_tape" (spTape K) := by
  refine D.ok sc_law_tape (fun vs H Q E h => ?_) (fun f cdv A outer s H vs Q E hr h => ?_)
  · obtain ⟨a, ns, rfl, _⟩ := h
    rfl
  obtain ⟨a, ns, rfl, hS, h63, k⟩ := h
  refine ⟨_, -- return {'cells': _law_script[:63], 'spot': 0, 'left': 0}
    (pss_one (ps_ret (pe_disp (pps_cons pe_str (pe_slice sl_list (pv 0) po_none (po_some pe_int)) (pps_cons pe_str pe_int (pps_cons pe_str pe_int pps_nil))) rfl rfl (by decide) (by decide)))), ?_⟩
  (intro t t0; generalize hh_ : upd _ t _ = H1; have ht := upd_is hh_; have s1 := same_is hh_ t0; clear hh_)
  refine ⟨_, rfl, _, rfl, a, _, rfl, s1.seq hS, ?_⟩
  (intro c c0; generalize hh_ : upd _ c _ = H2; have hc := upd_is hh_; have s2 := same_is hh_ c0; clear hh_)
  have ec : ∃ cs : List Int, cutV (ns.map V.int) none (some 63) = cs.map V.int ∧ cs.length ≤ 63 := by
    refine ⟨(ns.drop (HT.sIx ns.length 0 none)).take (HT.sIx ns.length ns.length (some 63) - HT.sIx ns.length 0 none), ?_, ?_⟩
    · unfold cutV
      rw [List.map_take, List.map_drop, List.length_map]
    · rw [List.length_take, List.length_drop]
      omega
  obtain ⟨cs, ec, lc⟩ := ec
  rw [ec] at hc
  refine ⟨s2 _ _ ht, [((Sum.inr ("cells" : Str) : Key), V.ref c), (Sum.inr ("spot" : Str), .int 0), (Sum.inr ("left" : Str), .int 0)], rfl, (by show 3 ≤ 15; decide), ?_⟩
  rw [tape_is]
  have tc : t ≠ c := ne_of (s2 _ _ ht) hc (by intro z; cases z)
  have tH := t0
  exact k t c _ ⟨cs, 0, 0, upd_same, by rw [upd_ne tc.symm]; exact hc, by decide, by decide, by decide, lc⟩ fun p o e => by
    rw [upd_ne (ne_of_none e tH)]
    exact s2 _ _ (s1 _ _ e)
theorem ok_pick (D : Df K mg "_law_pick" s_law_pick ["_law_tape_here", "_law_some"]) (T : Txt K mg) (c_law_draw : Cl P w K mg base 1 "_law_draw" spDraw) : Cl P w K mg base 2 "_law_pick" (spPick K) := by
  refine D.ok sc_law_pick (fun vs H Q E h => ?_) (fun f cdv A outer s H vs Q E hr h => ?_)
  · obtain ⟨t, c, l, xs, n, rfl, _⟩ := h
    rfl
  obtain ⟨t, c, l, xs, n, rfl, hT, hn, hl, hx, k⟩ := h
  refine ⟨_, -- return _law_some[_law_draw(_law_tape_here, len(_law_some))]
    (pss_one (ps_ret (pe_ix ix_list (pv 1) (pe_cl c_law_draw (hr.mono (by first | decide | omega)) rfl (pa_cons (pv 0) (pa_cons (pe_callB call_len_seq (by rfl) T.m_len PySem.boot_len (pa_cons (pv 1) pa_nil)) pa_nil))) (fun _ _ => rfl)))), ?_⟩
  refine ⟨_, rfl, _, rfl, _, rfl, _, _, rfl, .inl (SqL.of hl), t, c, xs.length, n, rfl, hT, ⟨by omega, by omega⟩, hn, fun r H' hr' T' F' => ?_⟩
  obtain ⟨v, hv, e⟩ := at_in (xs := xs) hr'.1 (by omega)
  exact ⟨l, xs, r, v, rfl, rfl, SqL.of (F' _ _ hl (not_in_one (hT.ne_lst hl))), e, k v H' hv T' F'⟩
end
end SG
/-! tuples and numbers of data, bent -/
namespace SG
open PySem PySem.Spec PyProof.Rows L2
def asI : PyData → Int
  | .int i => i
  | .bool b => if b = true then 1 else 0
  | _ => 0
section
variable {X : Cx}
def rIB (K : PySem.W.Frag) (g : Int → Int → Int) : R2 := fun x y H Q => ∃ d j, Dp K H x d ∧ d.isInt = true ∧ y = .int j ∧ Q (.int (g (asI d) j)) H
theorem op_addIB : OpR X (binaryOp .Add) (rIB X.K (· + ·)) := by
  intro pins s σ H x y v u Q I rx ry h
  obtain ⟨d, j, hd, p, rfl, q⟩ := h
  obtain ⟨t, rfl⟩ := ry
  cases hd with
  | int i =>
    exact op_add pins s σ H (.int i) (.int j) v _ Q I rx ⟨t, rfl⟩ ⟨i, j, rfl, rfl, q⟩
  | bl b =>
    obtain rfl : v = Value.bool b := rx
    exact IntBool.add_bool_int ⟨.int _, H, I.tok _, ⟨_, rfl⟩, q⟩
  | non => cases p
  | str s => cases p
  | lst a b => cases p
  | tup a b => cases p
theorem op_subIB : OpR X (binaryOp .Sub) (rIB X.K (· - ·)) := by
  intro pins s σ H x y v u Q I rx ry h
  obtain ⟨d, j, hd, p, rfl, q⟩ := h
  obtain ⟨t, rfl⟩ := ry
  cases hd with
  | int i =>
    exact op_sub pins s σ H (.int i) (.int j) v _ Q I rx ⟨t, rfl⟩ ⟨i, j, rfl, rfl, q⟩
  | bl b =>
    obtain rfl : v = Value.bool b := rx
    exact IntBool.sub_bool_int ⟨.int _, H, I.tok _, ⟨_, rfl⟩, q⟩
  | non => cases p
  | str s => cases p
  | lst a b => cases p
  | tup a b => cases p
def textOf : PyData → Str
  | .int i => toString i
  | .bool b => if b = true then "True" else "False"
  | _ => ""
theorem call_strIB : CallR X (.type "str") (fun xs H Q => ∃ x d, xs = [x] ∧ Dp X.K H x d ∧ d.isInt = true ∧ (asI d).natAbs.log2 < 1920 ∧ Q (.str (textOf d)) H) := by
  intro pins s σ H xs us Q I r h
  obtain ⟨x, d, rfl, hd, p, lg, q⟩ := h
  cases hd with
  | int i => exact call_str_int pins s σ H _ us Q I r ⟨i, rfl, lg, q⟩
  | bl b =>
    obtain ⟨u, rfl, rv⟩ := vals1 r
    obtain rfl : u = Value.bool b := rv
    exact P.str_of_bool ⟨.str _, H, I.tok _, ⟨_, by cases b <;> rfl⟩, q⟩
  | non => cases p
  | str s => cases p
  | lst a b => cases p
  | tup a b => cases p
end
/-! ### small numbers in data -/
mutual
def gdB (B : Nat) : PyData → Bool
  | .none | .bool _ => true
  | .int i => decide (i.natAbs ≤ B)
  | .str x => x.cps.toList.all fun c => decide (c < 1000)
  | .list xs | .tuple xs => gdBAll B xs
  | .dict _ => false
def gdBAll (B : Nat) : List PyData → Bool
  | [] => true
  | x :: xs => gdB B x && gdBAll B xs
end
mutual
theorem gdB_mono {B C : Nat} (h : B ≤ C) : ∀ {d : PyData}, gdB B d = true → gdB C d = true
  | .none, _ => rfl
  | .bool _, _ => rfl
  | .int i, q => decide_eq_true (Nat.le_trans (of_decide_eq_true (show decide (i.natAbs ≤ B) = true from q)) h)
  | .str _, q => q
  | .list xs, q => gdBAll_mono (ds := xs) h q
  | .tuple xs, q => gdBAll_mono (ds := xs) h q
  | .dict _, q => by cases q
theorem gdBAll_mono {B C : Nat} (h : B ≤ C) : ∀ {ds : List PyData}, gdBAll B ds = true → gdBAll C ds = true
  | [], _ => rfl
  | d :: ds, q => by
    have q' : (gdB B d && gdBAll B ds) = true := q
    rw [Bool.and_eq_true] at q'
    show (gdB C d && gdBAll C ds) = true
    rw [gdB_mono h q'.1, gdBAll_mono h q'.2]; rfl
end
mutual
theorem gdB_gd {B : Nat} (h : B < 10 ^ 61) : ∀ {d : PyData}, gdB B d = true → gd d = true
  | .none, _ => rfl
  | .bool _, _ => rfl
  | .int i, q => decide_eq_true (Nat.lt_of_le_of_lt (of_decide_eq_true (show decide (i.natAbs ≤ B) = true from q)) h)
  | .str _, q => q
  | .list xs, q => gdBAll_gd (ds := xs) h q
  | .tuple xs, q => gdBAll_gd (ds := xs) h q
  | .dict _, q => by cases q
theorem gdBAll_gd {B : Nat} (h : B < 10 ^ 61) : ∀ {ds : List PyData}, gdBAll B ds = true → gdAll ds = true
  | [], _ => rfl
  | d :: ds, q => by
    have q' : (gdB B d && gdBAll B ds) = true := q
    rw [Bool.and_eq_true] at q'
    show (gd d && gdAll ds) = true
    rw [gdB_gd h q'.1, gdBAll_gd h q'.2]; rfl
end
theorem gdBAll_mem {B : Nat} : ∀ {ds : List PyData}, gdBAll B ds = true ↔ ∀ d ∈ ds, gdB B d = true
  | [] => by simp [gdBAll]
  | d :: ds => by
    show (gdB B d && gdBAll B ds) = true ↔ _
    rw [Bool.and_eq_true, gdBAll_mem]
    simp
theorem wtAll_append : ∀ (a b : List PyData), wtAll (a ++ b) = wtAll a + wtAll b
  | [], b => by simp [wtAll]
  | x :: a, b => by
    show wt x + 2 + wtAll (a ++ b) = wt x + 2 + wtAll a + wtAll b
    rw [wtAll_append a b]; omega
theorem wtAll_reverse : ∀ a : List PyData, wtAll a.reverse = wtAll a
  | [] => rfl
  | x :: a => by
    rw [List.reverse_cons, wtAll_append, wtAll_reverse a]
    show wtAll a + (wt x + 2 + 0) = wt x + 2 + wtAll a
    omega
theorem wtAll_drop (a : List PyData) (k : Nat) : wtAll (a.drop k) ≤ wtAll a := by
  have := wtAll_append (a.take k) (a.drop k)
  rw [List.take_append_drop] at this
  omega
theorem wtAll_take (a : List PyData) (k : Nat) : wtAll (a.take k) ≤ wtAll a := by
  have := wtAll_append (a.take k) (a.drop k)
  rw [List.take_append_drop] at this
  omega
theorem depthAll_le {m : Nat} : ∀ {ds : List PyData}, (∀ d ∈ ds, d.depth ≤ m) → PyData.depthAll ds ≤ m
  | [], _ => Nat.zero_le _
  | d :: ds, h => Nat.max_le.mpr ⟨h d (by simp), depthAll_le fun e he => h e (by simp [he])⟩
theorem depth_mem : ∀ {ds : List PyData} {d : PyData}, d ∈ ds → d.depth ≤ PyData.depthAll ds
  | e :: ds, d, h => by
    cases h with
    | head => exact Nat.le_max_left _ _
    | tail _ h => exact Nat.le_trans (depth_mem h) (Nat.le_max_right _ _)
theorem depth_tup (ds : List PyData) : (PyData.tuple ds).depth = PyData.depthAll ds + 1 := rfl
theorem depth_list (ds : List PyData) : (PyData.list ds).depth = PyData.depthAll ds + 1 := rfl
/-- e is d bent: its numbers, its size, its depth -/
def Bent (B : Nat) (d e : PyData) : Prop := gdB (B + 1) e = true ∧ wt e ≤ 2 * wt d + 1000 ∧ e.depth ≤ d.depth + 2
/-! ### new tuples of data -/
theorem FzAll.append {K : PySem.W.Frag} {H : Hp} : ∀ {ds es : List PyData} {vs ws : List V}, FzAll K H vs ds → FzAll K H ws es → FzAll K H (vs ++ ws) (ds ++ es)
  | _, _, _, _, .nil, q => q
  | _, _, _, _, .cons h t, q => .cons h (t.append q)
theorem FzAll.take {K : PySem.W.Frag} {H : Hp} : ∀ {ds : List PyData} {vs : List V} (k : Nat), FzAll K H vs ds → FzAll K H (vs.take k) (ds.take k)
  | _, _, 0, _ => .nil
  | _, _, _ + 1, .nil => .nil
  | _, _, k + 1, .cons h t => .cons h (t.take k)
theorem FzAll.drop {K : PySem.W.Frag} {H : Hp} : ∀ {ds : List PyData} {vs : List V} (k : Nat), FzAll K H vs ds → FzAll K H (vs.drop k) (ds.drop k)
  | _, _, 0, q => q
  | _, _, _ + 1, .nil => .nil
  | _, _, k + 1, .cons h t => t.drop k
theorem FzAll.reverse {K : PySem.W.Frag} {H : Hp} : ∀ {ds : List PyData} {vs : List V}, FzAll K H vs ds → FzAll K H vs.reverse ds.reverse
  | _, _, .nil => .nil
  | _, _, .cons h t => by
    rw [List.reverse_cons, List.reverse_cons]
    exact t.reverse.append (.cons h .nil)
/-- what follows a new tuple -/
def KT (K : PySem.W.Frag) (H : Hp) (ds : List PyData) (Q : VK) : Prop := ∀ a xs H', Same H H' → Tz H' a xs → FzAll K H' xs ds → Q (.ref a) H'
theorem new_kt {K : PySem.W.Frag} {H : Hp} {xs : List V} {ds : List PyData} {Q : VK} (f : FzAll K H xs ds) (k : KT K H ds Q) : NewT H xs Q := fun p o p0 od =>
  k p xs _ (same_new p0) ⟨o, upd_same, od⟩ (f.same (same_new p0))
def cutD (ds : List PyData) (lo hi : Option Int) : List PyData := (ds.drop (HT.sIx ds.length 0 lo)).take (HT.sIx ds.length ds.length hi - HT.sIx ds.length 0 lo)
theorem slice_kt {K : PySem.W.Frag} {H : Hp} {a : Addr} {xs : List V} {ds : List PyData} {lo hi : Option Int} {Q : VK} (z : Tz H a xs) (f : FzAll K H xs ds) (k : KT K H (cutD ds lo hi) Q) : rSlF K (.ref a) lo hi H Q := by
  have ln := f.len
  refine ⟨a, xs, rfl, z.sq, fun e => ?_, fun _ => ?_⟩
  · rw [ln] at e
    have e2 : cutD ds lo hi = ds := by
      unfold cutD
      rw [e.1, e.2, List.drop_zero, Nat.sub_zero, List.take_length]
    rw [e2] at k
    exact k a xs H (Same.refl _) z f
  · refine new_kt ?_ k
    unfold cutV cutD
    rw [ln]
    exact (f.drop _).take _
theorem cat_kt {K : PySem.W.Frag} {H : Hp} {a b : Addr} {xs ys : List V} {ds es : List PyData} {Q : VK} (z : Tz H a xs) (f : FzAll K H xs ds) (z2 : Tz H b ys) (f2 : FzAll K H ys es) (few : xs.length + ys.length ≤ sizeLine) (k : KT K H (ds ++ es) Q) :
    rCatF K (.ref a) (.ref b) H Q := by
  refine ⟨a, b, xs, ys, rfl, rfl, z.sq, z2.sq, few, fun e => ?_, fun _ e => ?_, fun _ _ => new_kt (f.append f2) k⟩
  · subst e
    cases f
    exact k b ys H (Same.refl _) z2 f2
  · subst e
    cases f2
    rw [List.append_nil] at k
    exact k a xs H (Same.refl _) z f
end SG
namespace SG
open PySem PySem.Spec PyProof.Rows L2
def spNone : Sp := fun _ _ _ _ => False
def spBent (K : PySem.W.Frag) (b : Nat) : Sp := fun vs H Q _ => ∃ (t c : Addr) (x : V) (d : PyData) (n B : Nat), vs = [.ref t, x] ∧ TapeAt H t c n ∧ n + 2 * b + 2 ≤ 100000000 ∧ Fz K H x d ∧ gdB B d = true ∧ (10 ^ 59 ≤ B ∧ B ≤ 10 ^ 60) ∧ wt d ≤ 24000 ∧ d.depth ≤ b ∧ b ≤ 20 ∧
  ∀ v e H', TapeAt H' t c (n + 2 * b + 2) → Fr [t] H H' → Fz K H' v e → Bent B d e → Q v H'
theorem sIx_some {n i d : Nat} (h : i ≤ n) : HT.sIx n d (some (i : Int)) = i := by
  rw [HT.sIx_nat]
  omega
theorem cut_take {ds : List PyData} {i : Nat} (h : i ≤ ds.length) : cutD ds none (some (i : Int)) = ds.take i := by
  unfold cutD
  rw [sIx_some h]
  show (ds.drop 0).take (i - 0) = _
  rw [List.drop_zero, Nat.sub_zero]
theorem cut_drop {ds : List PyData} {i : Nat} (h : i ≤ ds.length) : cutD ds (some (i : Int)) none = ds.drop i := by
  unfold cutD
  rw [sIx_some h]
  show (ds.drop i).take (ds.length - i) = _
  rw [List.take_of_length_le (by rw [List.length_drop]; exact Nat.le_refl _)]
theorem wtAll_at {ds : List PyData} {i : Nat} {d : PyData} (e : ds[i]? = some d) : wtAll (ds.take i) + (wt d + 2) + wtAll (ds.drop (i + 1)) = wtAll ds := by
  have hi := (List.getElem?_eq_some_iff.mp e).1
  have e' := (List.getElem?_eq_some_iff.mp e).2
  have sp : ds = ds.take i ++ d :: ds.drop (i + 1) := by
    rw [← e', ← List.drop_eq_getElem_cons hi, List.take_append_drop]
  have q := wtAll_append (ds.take i) (d :: ds.drop (i + 1))
  rw [← sp] at q
  rw [q]
  show _ = wtAll (ds.take i) + (wt d + 2 + wtAll (ds.drop (i + 1)))
  omega
theorem bent_at {B : Nat} {ds : List PyData} {i : Nat} {d e : PyData} (h : ds[i]? = some d) (g : gdBAll B ds = true) (be : Bent B d e) : Bent B (.tuple ds) (.tuple (ds.take i ++ e :: ds.drop (i + 1))) := by
  obtain ⟨b1, b2, b3⟩ := be
  have gm := gdBAll_mem.mp g
  have wa := wtAll_at h
  have dm := depth_mem (List.mem_of_getElem? h)
  refine ⟨?_, ?_, ?_⟩
  · show gdBAll (B + 1) _ = true
    refine gdBAll_mem.mpr fun x hx => ?_
    rcases List.mem_append.mp hx with hx | hx
    · exact gdB_mono (Nat.le_succ B) (gm x (List.mem_of_mem_take hx))
    · rcases List.mem_cons.mp hx with rfl | hx
      · exact b1
      · exact gdB_mono (Nat.le_succ B) (gm x (List.mem_of_mem_drop hx))
  · show 10 + wtAll _ ≤ 2 * (10 + wtAll ds) + 1000
    rw [wtAll_append]
    show 10 + (wtAll (ds.take i) + (wt e + 2 + wtAll (ds.drop (i + 1)))) ≤ _
    omega
  · rw [depth_tup, depth_tup]
    refine Nat.succ_le_succ (depthAll_le fun x hx => ?_)
    rcases List.mem_append.mp hx with hx | hx
    · exact Nat.le_trans (depth_mem (List.mem_of_mem_take hx)) (by omega)
    · rcases List.mem_cons.mp hx with rfl | hx
      · show x.depth ≤ PyData.depthAll ds + 2
        omega
      · exact Nat.le_trans (depth_mem (List.mem_of_mem_drop hx)) (by omega)
theorem bent_tup {B : Nat} {ds es : List PyData} (g : gdBAll B ds = true) (mem : ∀ x ∈ es, x ∈ ds ∨ (gdB (B + 1) x = true ∧ x.depth ≤ PyData.depthAll ds + 2)) (w : wtAll es ≤ 2 * (10 + wtAll ds) + 990) : Bent B (.tuple ds) (.tuple es) := by
  have gm := gdBAll_mem.mp g
  refine ⟨?_, ?_, ?_⟩
  · show gdBAll (B + 1) es = true
    refine gdBAll_mem.mpr fun x hx => ?_
    rcases mem x hx with h | h
    · exact gdB_mono (Nat.le_succ B) (gm x h)
    · exact h.1
  · show 10 + wtAll es ≤ 2 * (10 + wtAll ds) + 1000
    omega
  · rw [depth_tup, depth_tup]
    refine Nat.succ_le_succ (depthAll_le fun x hx => ?_)
    rcases mem x hx with h | h
    · exact Nat.le_trans (depth_mem h) (by omega)
    · exact h.2
theorem cutD_mem {ds : List PyData} {lo hi : Option Int} {x : PyData} (h : x ∈ cutD ds lo hi) : x ∈ ds := List.mem_of_mem_drop (List.mem_of_mem_take h)
theorem cutD_wt (ds : List PyData) (lo hi : Option Int) : wtAll (cutD ds lo hi) ≤ wtAll ds := Nat.le_trans (wtAll_take _ _) (wtAll_drop _ _)
theorem cutD_len (ds : List PyData) (lo hi : Option Int) : (cutD ds lo hi).length ≤ ds.length := by
  unfold cutD
  rw [List.length_take, List.length_drop]; omega
theorem bent_leaf {B : Nat} {d e : PyData} (g : gdB (B + 1) e = true) (w : wt e ≤ 1000) (z : e.depth ≤ 2) : Bent B d e := ⟨g, by omega, by omega⟩
theorem gd_int {B : Nat} {i : Int} (h : i.natAbs ≤ B) : gdB B (.int i) = true := decide_eq_true h
theorem text_small {d : PyData} (h : d.isInt = true) (n : (asI d).natAbs < 10 ^ 61) : (textOf d).length ≤ 62 ∧ (textOf d).cps.toList.all (fun c => decide (c < 1000)) = true := by
  cases d with
  | int i =>
    refine ⟨int_text n, List.all_eq_true.mpr fun c hc => decide_eq_true ?_⟩
    apply Classical.byContradiction
    intro z
    exact PyProof.Rows.int_text_free' c ⟨by omega, .inr (by omega)⟩ i hc
  | bool b => cases b <;> exact ⟨by decide, by decide +kernel⟩
  | none => cases h
  | str s => cases h
  | list a => cases h
  | tuple a => cases h
  | dict a => cases h
section
variable {P : Program} {w : World} {K : PySem.W.Frag} {mg : Str → Option Value} {base : Heap}
theorem bent_step {b k : Nat} (D : Df K mg "_law_bent" s_law_bent ["_law_tape_here", "_law_thing"]) (T : Txt K mg) (c_law_draw : Cl P w K mg base 1 "_law_draw" spDraw) (c_law_pick : Cl P w K mg base 2 "_law_pick" (spPick K))
    (hk : 2 ≤ k) (c_law_bent : Cl P w K mg base k "_law_bent" (match b with | 0 => spNone | b + 1 => spBent K b)) : Cl P w K mg base (k + 1) "_law_bent" (spBent K b) := by
  refine D.ok sc_law_bent (fun vs H Q E h => ?_) (fun f cdv A outer s H vs Q E hr h => ?_)
  · obtain ⟨t, c, x, d, n, B, rfl, _⟩ := h
    rfl
  obtain ⟨t, c, x, d, n, B, rfl, hT, hn, hf, g, hB, sz, dep, b20, k⟩ := h
  have hu := hu_of hr
  refine ⟨_, -- if isinstance(_law_thing, tuple) and _law_thing != () and (_law_draw(_law_tape_here, 4) > 0):
    (C8.pss_cut (ps_if (PW.pt (pw_and (pt_val (pe_callB call_isTup (by rfl) T.m_isinstance (by decide +kernel) (pa_cons (pv 1) (pa_cons (pe_bltn (v := .ty "tuple") (u := .type "tuple") (by rfl) T.m_tuple (by decide +kernel) rfl) pa_nil)))) (pw_and (pt_cmpR (op_neP hr.units) (pv 1) (pe_tupF pa_nil) (nomark _)) (pw_and1 (pt_cmpR op_gt (pe_cl c_law_draw (hr.mono (by first | decide | omega)) rfl (pa_cons (pv 0) (pa_cons pe_int pa_nil))) pe_int (nomark _))))))
      (pss_cons (ps_set (i := 2) sc_law_bent.nd rfl (Or.inl rfl) (pe_cl c_law_draw (hr.mono (by first | decide | omega)) rfl (pa_cons (pv 0) (pa_cons (pe_callB call_len_seq (by rfl) T.m_len PySem.boot_len (pa_cons (pv 1) pa_nil)) pa_nil))))
      (pss_one (ps_ret (pe_op op_catF (pe_op op_catF (pe_slice sl_tupF (pv 1) po_none (po_some (pv 2))) (pe_tupF (pa_cons (pe_cl c_law_bent (hr.mono (by first | decide | omega)) rfl (pa_cons (pv 0) (pa_cons (pe_ix ix_tup (pv 1) (pv 2) (fun _ _ => rfl)) pa_nil))) pa_nil))) (pe_slice sl_tupF (pv 1) (po_some (pe_op op_add (pv 2) pe_int)) po_none)))))
      pss_nil)
    (pss_cons (ps_if (pt_val (pe_callB call_isTup (by rfl) T.m_isinstance (by decide +kernel) (pa_cons (pv 1) (pa_cons (pe_bltn (v := .ty "tuple") (u := .type "tuple") (by rfl) T.m_tuple (by decide +kernel) rfl) pa_nil))))
      (pss_one (ps_ret (pe_cl c_law_pick (hr.mono (by first | decide | omega)) rfl (pa_cons (pv 0) (pa_cons (pe_lst (pa_cons (pe_callTy call_list_of rfl T.m_list (by decide +kernel) (pa_cons (pv 1) pa_nil)) (pa_cons (pe_slice sl_tupF (pv 1) po_none (po_some (pe_un un_neg pe_int))) (pa_cons (pe_op op_catF (pv 1) (pe_slice sl_tupF (pv 1) (po_some (pe_un un_neg pe_int)) po_none)) (pa_cons (pe_revF (pv 1)) (pa_cons (pe_tupF pa_nil) (pa_cons (pe_tupF (pa_cons (pv 1) pa_nil)) (pa_cons (pe_op op_catF (pv 1) (pe_tupF (pa_cons (pe_tupF (pa_cons pe_str (pa_cons pe_int pa_nil))) pa_nil))) pa_nil)))))))) pa_nil)))))
      pss_nil)
    (pss_cons (ps_if (pt_val (pe_callB call_isInt (by rfl) T.m_isinstance (by decide +kernel) (pa_cons (pv 1) (pa_cons (pe_bltn (v := .ty "int") (u := .type "int") (by rfl) T.m_int (by decide +kernel) rfl) pa_nil))))
      (pss_one (ps_ret (pe_cl c_law_pick (hr.mono (by first | decide | omega)) rfl (pa_cons (pv 0) (pa_cons (pe_lst (pa_cons (pe_op op_addIB (pv 1) pe_int) (pa_cons (pe_op op_subIB (pv 1) pe_int) (pa_cons pe_int (pa_cons pe_int (pa_cons pe_int (pa_cons pe_bl (pa_cons pe_bl (pa_cons pe_non (pa_cons (pe_callTy call_strIB (by rfl) T.m_str (by decide +kernel) (pa_cons (pv 1) pa_nil)) (pa_cons (pe_op op_powG pe_int pe_int) (pa_cons pe_str pa_nil)))))))))))) pa_nil)))))
      pss_nil)
    (pss_one (ps_ret (pe_cl c_law_pick (hr.mono (by first | decide | omega)) rfl (pa_cons (pv 0) (pa_cons (pe_lst (pa_cons pe_str (pa_cons pe_str (pa_cons pe_str (pa_cons pe_str (pa_cons pe_str (pa_cons pe_str (pa_cons pe_str (pa_cons pe_str (pa_cons pe_non (pa_cons pe_int (pa_cons pe_int (pa_cons (pe_tupF (pa_cons pe_str pa_nil)) (pa_cons pe_int pa_nil)))))))))))))) pa_nil)))))))), ?_⟩
  refine ⟨fun σ Hx => σ = [some (.ref t), some x, none] ∧ TapeAt Hx t c (n + 1) ∧ Fr [t] H Hx, ?_, ?_⟩
  · refine ⟨_, rfl, x, d, rfl, hf.dp, _, rfl, ite2 (fun p => ?_) (fun p => ite2 (fun z => by cases z) fun _ => ⟨rfl, hT.mono (by omega), Fr.refl _ _⟩)⟩
    obtain ⟨ds, rfl⟩ : ∃ ss, d = .tuple ss := by
      cases hf <;> first | exact ⟨_, rfl⟩ | cases p
    obtain ⟨a, xs, rfl, za, fa⟩ := hf.tupOf
    have lxs := fa.len
    have few : 12 * ds.length ≤ 24000 := by
      have := wtAll_len ds
      simp only [wt] at sz
      omega
    have big : 100000 ≤ sizeLine := by decide
    refine ⟨_, rfl, (by show 0 ≤ sizeLine; decide), fun q o q0 _ => ?_⟩
    generalize hH : upd H q (.frz o (.tup [])) = H1
    have s1 : Same H H1 := by rw [← hH]; exact same_new q0
    have z1 : SqT K H1 q [] := .inl (.inr ⟨o, by rw [← hH]; exact upd_same⟩)
    refine ⟨.tuple ds, .tuple [], (hf.same s1).dp, .tup z1 .nil, Dp.plain hf.dp, rfl, by show min _ (0 + 1) ≤ 64; omega, _, rfl, ite2 (fun p2 => ?_) (fun p2 => ite2 (fun z => by cases z) fun _ => ⟨rfl, (hT.same s1).mono (by omega), Fr.same s1 _⟩)⟩
    have pos : 1 ≤ ds.length := by
      cases ds with
      | nil => cases p2
      | cons d ds => simp
    refine ⟨_, rfl, t, c, 4, n, rfl, hT.same s1, ⟨by decide, by decide⟩, by omega, fun r H2 hr2 T2 F2 => ?_⟩
    have F02 := (Fr.same s1 [t]).trans F2
    refine ⟨_, _, rfl, rfl, _, rfl, ite2 (fun p3 => ?_) (fun p3 => ⟨rfl, T2, F02⟩)⟩
    have f2 := hf.fr hT F02
    have za2 := za.fr hT F02
    refine ⟨_, rfl, _, rfl, _, _, rfl, .inr za2.sq, t, c, xs.length, n + 1, rfl, T2, ⟨by omega, by omega⟩, by omega, fun r2 H3 hr3 T3 F3 => ?_⟩
    have f3 := f2.fr T2 F3
    have za3 := za2.fr T2 F3
    have F03 := F02.trans F3
    have fa3 := (fa.fr hT F02).fr T2 F3
    obtain ⟨i, rfl⟩ : ∃ i : Nat, r2 = i := ⟨r2.toNat, by omega⟩
    have hi : i < ds.length := by omega
    have e1 : ds[i]? = some ds[i] := List.getElem?_eq_getElem hi
    generalize ds[i] = dk at e1
    obtain ⟨vk, ek, fk⟩ := fa3.get e1
    have dkm := List.mem_of_getElem? e1
    cases b with
    | zero => rw [depth_tup] at dep; omega
    | succ b =>
      refine ⟨_, rfl, _, rfl, _, rfl, slice_kt za3 fa3 fun a1 xs1 H4 s4 z4 f4 => ?_⟩
      rw [cut_take (by omega)] at f4
      refine ⟨_, rfl, _, rfl, _, rfl, a, xs, i, vk, rfl, rfl, (za3.same s4).sq, atI_nat ek, t, c, vk, dk, n + 2, B, rfl, T3.same s4, by omega, fk.same s4, gdBAll_mem.mp g _ dkm, hB, ?_, ?_, by omega, fun v' e' H5 T5 F5 fz5 be => ?_⟩
      · have := wtAll_mem dkm
        simp only [wt] at sz
        omega
      · have := depth_mem dkm
        rw [depth_tup] at dep
        omega
      refine ⟨(by show 1 ≤ sizeLine; decide), new_kt (.cons fz5 .nil) fun a2 xs2 H6 s6 z6 f6 => ?_⟩
      have F46 : Fr [t] H4 H6 := F5.trans (Fr.same s6 _)
      have T4 := T3.same s4
      have l4 := f4.len
      have l6 := f6.len
      refine cat_kt (z4.fr T4 F46) (f4.fr T4 F46) z6 f6 ?_ fun a3 xs3 H7 s7 z7 f7 => ?_
      · rw [l4, l6, List.length_take]
        show _ + 1 ≤ _
        omega
      have F47 : Fr [t] H4 H7 := F46.trans (Fr.same s7 _)
      have F37 : Fr [t] H3 H7 := (Fr.same s4 _).trans F47
      have za7 := za3.fr T3 F37
      have fa7 := fa3.fr T3 F37
      refine ⟨_, rfl, _, rfl, _, _, rfl, rfl, _, rfl, ?_⟩
      rw [show ((i : Int) + 1) = ((i + 1 : Nat) : Int) by omega]
      dsimp only [tNoPart]
      refine slice_kt za7 fa7 fun a4 xs4 H8 s8 z8 f8 => ?_
      rw [cut_drop (by omega)] at f8
      have l7 := f7.len
      have l8 := f8.len
      refine cat_kt (z7.same s8) (f7.same s8) z8 f8 ?_ fun a5 xs5 H9 s9 z9 f9 => ?_
      · rw [l7, l8, List.length_append, List.length_take, List.length_drop]
        show _ + 1 + _ ≤ _
        omega
      have F59 : Fr [t] H5 H9 := (Fr.same (s6.trans (s7.trans (s8.trans s9))) _)
      have T9 := T5.same (s6.trans (s7.trans (s8.trans s9)))
      rw [List.append_assoc] at f9
      refine k (.ref a5) _ H9 (T9.mono (by omega)) ?_ (.tup z9 f9) (bent_at e1 g be)
      exact F03.trans (F37.trans (Fr.same (s8.trans s9) _))
  rintro σ Hx ⟨rfl, T1, F1⟩
  have hf1 := hf.fr hT F1
  have pickd : ∀ {xs : List V} {Hp' : Hp} {l : Addr}, Same Hx Hp' → Hp' l = some (.lst xs) → (1 ≤ xs.length ∧ xs.length ≤ 1000) → (∀ v ∈ xs, ∃ e, Fz K Hp' v e ∧ Bent B d e) → spPick K [.ref t, .ref l] Hp' Q E0 := by
    intro xs Hq l sq hl few all
    refine ⟨t, c, l, xs, n + 1, rfl, T1.same sq, by omega, hl, few, fun v H' hv T' F' => ?_⟩
    obtain ⟨e, fz, be⟩ := all v hv
    exact k v e H' (T'.mono (by omega)) (F1.trans ((Fr.same sq _).trans F')) (fz.fr (T1.same sq) F') be
  refine ⟨_, rfl, x, d, rfl, hf1.dp, _, rfl, ite2 (fun p => ?_) (fun p => ?_)⟩
  · obtain ⟨ds, rfl⟩ : ∃ ss, d = .tuple ss := by
      cases hf <;> first | exact ⟨_, rfl⟩ | cases p
    obtain ⟨a, xs, rfl, za, fa⟩ := hf1.tupOf
    have lxs := fa.len
    have few : 12 * ds.length ≤ 24000 := by
      have := wtAll_len ds
      simp only [wt] at sz
      omega
    have big : 100000 ≤ sizeLine := by decide
    have g' : gdBAll B ds = true := g
    refine ⟨_, rfl, _, rfl, a, xs, rfl, .inr za.sq, fun l1 l10 => ?_⟩
    generalize hH : upd Hx l1 (.lst xs) = H1
    have s1 : Same Hx H1 := by rw [← hH]; exact same_new l10
    have e1 : H1 l1 = some (.lst xs) := by rw [← hH]; exact upd_same
    refine ⟨_, rfl, _, rfl, _, rfl, slice_kt (za.same s1) (fa.same s1) fun a2 xs2 H2 s2 z2 f2 => ?_⟩
    have s12 := s1.trans s2
    refine ⟨_, rfl, _, rfl, _, rfl, _, rfl, ?_⟩
    show tNoPart _ H2 _
    unfold tNoPart
    refine slice_kt (za.same s12) (fa.same s12) fun a3 xs3 H3 s3 z3 f3 => ?_
    have s13 := s12.trans s3
    refine cat_kt (za.same s13) (fa.same s13) z3 f3 ?_ fun a4 xs4 H4 s4 z4 f4 => ?_
    · have := cutD_len ds (some (-1)) none
      rw [f3.len, lxs]
      omega
    have s14 := s13.trans s4
    refine ⟨_, rfl, a, xs, rfl, (za.same s14).sq, new_kt (fa.same s14).reverse fun a5 xs5 H5 s5 z5 f5 => ?_⟩
    have s15 := s14.trans s5
    refine ⟨(by show 0 ≤ sizeLine; decide), new_kt (K := K) .nil fun a6 xs6 H6 s6 z6 f6 => ?_⟩
    have s16 := s15.trans s6
    refine ⟨_, rfl, (by show 1 ≤ sizeLine; decide), new_kt (.cons (.tup (za.same s16) (fa.same s16)) .nil) fun a7 xs7 H7 s7 z7 f7 => ?_⟩
    have s17 := s16.trans s7
    refine ⟨_, rfl, (by show 2 ≤ sizeLine; decide), new_kt (K := K) (.cons (.str _) (.cons (.int _) .nil)) fun a8 xs8 H8 s8 z8 f8 => ?_⟩
    have s18 := s17.trans s8
    refine ⟨(by show 1 ≤ sizeLine; decide), new_kt (.cons (.tup z8 f8) .nil) fun a9 xs9 H9 s9 z9 f9 => ?_⟩
    have s19 := s18.trans s9
    refine cat_kt (za.same s19) (fa.same s19) z9 f9 ?_ fun a10 xs10 H10 s10 z10 f10 => ?_
    · rw [f9.len, lxs]
      show _ + 1 ≤ _
      omega
    have s110 := s19.trans s10
    refine ⟨(by show 7 ≤ sizeLine; decide), fun l l0 => ?_⟩
    generalize hG : upd H10 l (.lst [.ref l1, .ref a2, .ref a4, .ref a5, .ref a6, .ref a7, .ref a10]) = H11
    have s11 : Same H10 H11 := by rw [← hG]; exact same_new l0
    refine pickd (s110.trans s11) (by rw [← hG]; exact upd_same) ⟨by show 1 ≤ 7; omega, by show 7 ≤ 1000; omega⟩ ?_
    have sall := s110.trans s11
    intro v hv
    simp only [List.mem_cons, List.not_mem_nil, or_false] at hv
    have w2 := cutD_wt ds none (some (-1))
    have w3 := cutD_wt ds (some (-1)) none
    rcases hv with rfl | rfl | rfl | rfl | rfl | rfl | rfl
    · refine ⟨.list ds, .lst (((s2.trans (s3.trans (s4.trans (s5.trans (s6.trans (s7.trans (s8.trans (s9.trans (s10.trans s11))))))))) ) _ _ e1) (fa.same sall), ?_⟩
      refine ⟨gdBAll_mono (ds := ds) (Nat.le_succ B) g', ?_, ?_⟩
      · show 10 + wtAll ds ≤ 2 * (10 + wtAll ds) + 1000
        omega
      · rw [depth_list, depth_tup]; omega
    · exact ⟨_, (Fz.tup z2 f2).same (s3.trans (s4.trans (s5.trans (s6.trans (s7.trans (s8.trans (s9.trans (s10.trans s11)))))))), bent_tup g' (fun x hx => .inl (cutD_mem hx)) (by omega)⟩
    · refine ⟨_, (Fz.tup z4 f4).same (s5.trans (s6.trans (s7.trans (s8.trans (s9.trans (s10.trans s11)))))), bent_tup g' (fun x hx => .inl ?_) (by rw [wtAll_append]; omega)⟩
      rcases List.mem_append.mp hx with h | h
      · exact h
      · exact cutD_mem h
    · exact ⟨_, (Fz.tup z5 f5).same (s6.trans (s7.trans (s8.trans (s9.trans (s10.trans s11))))), bent_tup g' (fun x hx => .inl (List.mem_reverse.mp hx)) (by rw [wtAll_reverse]; omega)⟩
    · exact ⟨_, (Fz.tup z6 f6).same (s7.trans (s8.trans (s9.trans (s10.trans s11)))), bent_tup g' (fun x hx => by cases hx) (by show 0 ≤ _; omega)⟩
    · refine ⟨_, (Fz.tup z7 f7).same (s8.trans (s9.trans (s10.trans s11))), bent_tup g' (fun x hx => .inr ?_) ?_⟩
      · obtain rfl := List.mem_singleton.mp hx
        refine ⟨gdBAll_mono (ds := ds) (Nat.le_succ B) g', ?_⟩
        rw [depth_tup]; omega
      · show (10 + wtAll ds) + 2 + 0 ≤ _
        omega
    · refine ⟨_, (Fz.tup z10 f10).same s11, bent_tup g' (fun x hx => ?_) ?_⟩
      · rcases List.mem_append.mp hx with h | h
        · exact .inl h
        · obtain rfl := List.mem_singleton.mp h
          refine .inr ⟨?_, ?_⟩
          · show ((("wait" : Str).cps.toList.all fun c => decide (c < 1000)) && (decide ((0 : Int).natAbs ≤ B + 1) && true)) = true
            rw [show (("wait" : Str).cps.toList.all fun c => decide (c < 1000)) = true by decide +kernel, show decide ((0 : Int).natAbs ≤ B + 1) = true from decide_eq_true (Nat.zero_le _)]
            rfl
          · show max 0 (max 0 0) + 1 ≤ _
            simp
      · rw [wtAll_append]
        show wtAll ds + ((10 + ((70 + 10 * 4) + 2 + (70 + 2 + 0))) + 2 + 0) ≤ _
        omega
  refine ⟨_, rfl, x, d, rfl, hf1.dp, _, rfl, ite2 (fun p2 => ?_) (fun p2 => ?_)⟩
  · have big : 100000 ≤ sizeLine := by decide
    refine ⟨_, rfl, _, rfl, d, 1, hf1.dp, p2, rfl, ?_⟩
    refine ⟨_, rfl, d, 1, hf1.dp, p2, rfl, ?_⟩
    have small : (asI d).natAbs ≤ B := by
      cases hf with
      | int i => exact of_decide_eq_true (show decide (i.natAbs ≤ B) = true from g)
      | bl q =>
        have : (asI (.bool q)).natAbs ≤ 1 := by cases q <;> decide
        have : 1 ≤ B := Nat.le_trans (by decide) hB.1
        omega
      | non => cases p2
      | str s => cases p2
      | lst a b => cases p2
      | tup a b => cases p2
    have b61 : B < 10 ^ 61 := Nat.lt_of_le_of_lt hB.2 (by decide)
    refine ⟨_, rfl, x, d, rfl, hf1.dp, p2, log_small (Nat.lt_of_le_of_lt small b61), ?_⟩
    refine ⟨_, _, rfl, rfl, ⟨by decide, by decide +kernel⟩, ?_⟩
    refine ⟨(by show 11 ≤ sizeLine; decide), fun l l0 => ?_⟩
    have tx := text_small p2 (Nat.lt_of_le_of_lt small b61)
    refine pickd (same_new l0) upd_same ⟨by show 1 ≤ 11; omega, by show 11 ≤ 1000; omega⟩ ?_
    intro v hv
    simp only [List.mem_cons, List.not_mem_nil, or_false] at hv
    have b9 := hB.1
    rcases hv with rfl | rfl | rfl | rfl | rfl | rfl | rfl | rfl | rfl | rfl | rfl
    · exact ⟨_, .int _, bent_leaf (gd_int (by show (asI d + 1).natAbs ≤ B + 1; omega)) (by simp [wt]) (Nat.zero_le _)⟩
    · exact ⟨_, .int _, bent_leaf (gd_int (by show (asI d - 1).natAbs ≤ B + 1; omega)) (by simp [wt]) (Nat.zero_le _)⟩
    · exact ⟨_, .int _, bent_leaf (gd_int (by omega)) (by simp [wt]) (Nat.zero_le _)⟩
    · exact ⟨_, .int _, bent_leaf (gd_int (by omega)) (by simp [wt]) (Nat.zero_le _)⟩
    · exact ⟨_, .int _, bent_leaf (gd_int (by omega)) (by simp [wt]) (Nat.zero_le _)⟩
    · exact ⟨_, .bl _, bent_leaf rfl (by simp [wt]) (Nat.zero_le _)⟩
    · exact ⟨_, .bl _, bent_leaf rfl (by simp [wt]) (Nat.zero_le _)⟩
    · exact ⟨_, .non, bent_leaf rfl (by simp [wt]) (Nat.zero_le _)⟩
    · exact ⟨_, .str _, bent_leaf tx.2 (by simp only [wt]; omega) (Nat.zero_le _)⟩
    · exact ⟨_, .int _, bent_leaf (gd_int (by rw [show (10 : Int) ^ (59 : Int).toNat = ((10 ^ 59 : Nat) : Int) by decide, Int.natAbs_natCast]; omega)) (by simp [wt]) (Nat.zero_le _)⟩
    · exact ⟨_, .str _, bent_leaf (by show (("claim" : Str).cps.toList.all fun c => decide (c < 1000)) = true; decide +kernel) (by simp only [wt]; show 70 + 10 * 5 ≤ 1000; omega) (Nat.zero_le _)⟩
  refine ⟨_, rfl, (by show 1 ≤ sizeLine; decide), new_kt (K := K) (.cons (.str _) .nil) fun a1 xs1 H1 s1 z1 f1 => ?_⟩
  refine ⟨(by show 13 ≤ sizeLine; decide), fun l l0 => ?_⟩
  refine pickd (s1.trans (same_new l0)) upd_same ⟨by show 1 ≤ 13; omega, by show 13 ≤ 1000; omega⟩ ?_
  intro v hv
  simp only [List.mem_cons, List.not_mem_nil, or_false] at hv
  have b9 := hB.1
  have okS : ∀ s : Str, s.length ≤ 50 → (s.cps.toList.all fun c => decide (c < 1000)) = true → ∃ e, (∀ Hq : Hp, Fz K Hq (.str s) e) ∧ Bent B d e := fun s h1 h2 =>
    ⟨.str s, fun Hq => .str s, bent_leaf h2 (by simp only [wt]; omega) (Nat.zero_le _)⟩
  rcases hv with rfl | rfl | rfl | rfl | rfl | rfl | rfl | rfl | rfl | rfl | rfl | rfl | rfl
  · obtain ⟨e, h1, h2⟩ := okS "in" (by decide) (by decide +kernel); exact ⟨e, h1 _, h2⟩
  · obtain ⟨e, h1, h2⟩ := okS "out" (by decide) (by decide +kernel); exact ⟨e, h1 _, h2⟩
  · obtain ⟨e, h1, h2⟩ := okS "up" (by decide) (by decide +kernel); exact ⟨e, h1 _, h2⟩
  · obtain ⟨e, h1, h2⟩ := okS "down" (by decide) (by decide +kernel); exact ⟨e, h1 _, h2⟩
  · obtain ⟨e, h1, h2⟩ := okS "wait" (by decide) (by decide +kernel); exact ⟨e, h1 _, h2⟩
  · obtain ⟨e, h1, h2⟩ := okS "claim" (by decide) (by decide +kernel); exact ⟨e, h1 _, h2⟩
  · obtain ⟨e, h1, h2⟩ := okS "give" (by decide) (by decide +kernel); exact ⟨e, h1 _, h2⟩
  · obtain ⟨e, h1, h2⟩ := okS "" (by decide) (by decide +kernel); exact ⟨e, h1 _, h2⟩
  · exact ⟨_, .non, bent_leaf rfl (by simp [wt]) (Nat.zero_le _)⟩
  · exact ⟨_, .int _, bent_leaf (gd_int (by omega)) (by simp [wt]) (Nat.zero_le _)⟩
  · exact ⟨_, .int _, bent_leaf (gd_int (by omega)) (by simp [wt]) (Nat.zero_le _)⟩
  · refine ⟨_, (Fz.tup z1 f1).same (same_new l0), bent_leaf ?_ ?_ ?_⟩
    · show ((("up" : Str).cps.toList.all fun c => decide (c < 1000)) && true) = true
      rw [show (("up" : Str).cps.toList.all fun c => decide (c < 1000)) = true by decide +kernel]; rfl
    · show 10 + ((70 + 10 * 2) + 2 + 0) ≤ 1000
      omega
    · show max 0 0 + 1 ≤ 2
      simp
  · exact ⟨_, .int _, bent_leaf (gd_int (by omega)) (by simp [wt]) (Nat.zero_le _)⟩
theorem ok_bent (D : Df K mg "_law_bent" s_law_bent ["_law_tape_here", "_law_thing"]) (T : Txt K mg) (c_law_draw : Cl P w K mg base 1 "_law_draw" spDraw) (c_law_pick : Cl P w K mg base 2 "_law_pick" (spPick K)) :
    ∀ b, Cl P w K mg base (b + 3) "_law_bent" (spBent K b)
  | 0 => bent_step D T c_law_draw c_law_pick (Nat.le_refl 2) ((D.none (sp := spNone) fun _ _ _ _ h => h).mono (by omega))
  | b + 1 => bent_step D T c_law_draw c_law_pick (by omega) (ok_bent D T c_law_draw c_law_pick b)
end
end SG
/-! states put in another order -/
namespace SG
open PySem PySem.Spec PyProof.Rows L2
def mvG (ord : List Nat) : PyData → PyData
  | .int j => .int (ord.idxOf j.toNat : Nat)
  | g => g
def mvStep (ord : List Nat) : PyData → PyData
  | .tuple [w, g] => .tuple [w, mvG ord g]
  | d => d
def mvState (ord : List Nat) : PyData → PyData
  | .tuple [w, .tuple ss] => .tuple [w, .tuple (ss.map (mvStep ord))]
  | d => d
def moved (sts : List PyData) (ord : List Nat) : List PyData := ord.map fun i => mvState ord (sts.getD i .none)
/-- an order of n states -/
structure Ord (n : Nat) (ord : List Nat) : Prop where
  nd : ord.Nodup
  len : ord.length = n
  mem : ∀ i, i ∈ ord ↔ i < n
theorem wordOf_mv {ord : List Nat} {n : Nat} {s : PyData} (h : isStep n s = true) : wordOf (mvStep ord s) = wordOf s := by
  obtain ⟨w, g, rfl, _, _⟩ := isStep_parts h
  rfl
theorem isG_mv {ord : List Nat} {n : Nat} {g : PyData} (o : Ord n ord) (h : isG n g = true) : isG n (mvG ord g) = true := by
  rcases isG_cases h with ⟨s, hs, rfl⟩ | ⟨j, hj, rfl⟩
  · exact h
  · have hi : ord.idxOf j < n := by rw [← o.len]; exact List.idxOf_lt_length_iff.mpr ((o.mem j).mpr hj)
    show (inL endsL _ || bet (.int ((ord.idxOf (j : Int).toNat : Nat) : Int)) 0 ((n : Int) - 1)) = true
    rw [Bool.or_eq_true]
    right
    show (decide ((0 : Int) ≤ (ord.idxOf j : Nat)) && decide (((ord.idxOf j : Nat) : Int) ≤ (n : Int) - 1)) = true
    rw [Bool.and_eq_true]
    exact ⟨decide_eq_true (by omega), decide_eq_true (by omega)⟩
theorem isStep_mv {ord : List Nat} {n : Nat} {s : PyData} (o : Ord n ord) (h : isStep n s = true) : isStep n (mvStep ord s) = true := by
  have h0 := h
  obtain ⟨w, g, rfl, hw, hg⟩ := isStep_parts h
  show (inL wordsL (.str w) && isG n (mvG ord g)) = true
  rw [isG_mv o hg, inL_of hw]; rfl
theorem words_mv {ord : List Nat} {n : Nat} : ∀ {ss : List PyData}, ss.all (isStep n) = true → (ss.map (mvStep ord)).map wordOf = ss.map wordOf
  | [], _ => rfl
  | s :: ss, h => by
    rw [List.all_cons, Bool.and_eq_true] at h
    rw [List.map_cons, List.map_cons, List.map_cons, wordOf_mv h.1, words_mv h.2]
theorem isState_mv {ord : List Nat} {n : Nat} {d : PyData} (o : Ord n ord) (h : isState n d = true) : isState n (mvState ord d) = true := by
  obtain ⟨a, ss, rfl, oks⟩ := isState_two h
  show isState n (.tuple [a, .tuple (ss.map (mvStep ord))]) = true
  rw [isState_eq] at h ⊢
  unfold isSteps at h ⊢
  rw [words_mv oks, List.length_map]
  rw [oks] at h
  rw [show (ss.map (mvStep ord)).all (isStep n) = true by
    rw [List.all_map, List.all_eq_true]
    exact fun s hs => isStep_mv o (List.all_eq_true.mp oks s hs)]
  exact h
theorem leadD_mv {ord : List Nat} {n : Nat} {w : Str} : ∀ {ss : List PyData}, ss.all (isStep n) = true → leadD (ss.map (mvStep ord)) w = (leadD ss w).map (mvG ord)
  | [], _ => rfl
  | s :: ss, h => by
    rw [List.all_cons, Bool.and_eq_true] at h
    have ih := leadD_mv (ord := ord) (w := w) h.2
    unfold leadD at ih ⊢
    rw [List.map_cons, List.find?_cons, List.find?_cons, wordOf_mv h.1]
    cases e : wordOf s == w with
    | true =>
      obtain ⟨w', g, rfl, _, _⟩ := isStep_parts h.1
      rfl
    | false => exact ih
theorem moved_len (sts : List PyData) (ord : List Nat) : (moved sts ord).length = ord.length := List.length_map _
theorem moved_get {sts : List PyData} {ord : List Nat} {k : Nat} (h : k < ord.length) : (moved sts ord).getD k .none = mvState ord (sts.getD ord[k] .none) := by
  unfold moved
  rw [List.getD_eq_getElem?_getD, List.getElem?_map, List.getElem?_eq_getElem h]
  rfl
theorem moved_mach {sts : List PyData} {ord : List Nat} {n : Nat} (o : Ord n ord) (l1 : 1 ≤ n) (l8 : n ≤ 8) (ok : ∀ i, i < n → isState n (sts.getD i .none) = true)
    (up : ∀ (i j : Nat), i < n → leadD (stepsOf (sts.getD i .none)) "wait" = some (.int j) → i < j) : isMach (.tuple (moved sts ord)) = true := by
  have ln := moved_len sts ord
  rw [o.len] at ln
  have all_ : (moved sts ord).all (isState n) = true := by
    rw [List.all_eq_true]
    intro d hd
    obtain ⟨i, hi, rfl⟩ := List.mem_map.mp hd
    exact isState_mv o (ok i ((o.mem i).mp hi))
  rw [isMach_eq (by omega) (by omega) (by rw [ln]; exact all_), ln, Bool.not_eq_true', List.any_eq_false]
  intro i hi
  have hi' := List.mem_range.mp hi
  have grow : ∀ k c, runF (moved sts ord) k i = some c → c < n ∧ ∀ h : c < ord.length, k ≤ ord[c] := by
    intro k
    induction k with
    | zero =>
      intro c e
      obtain rfl : i = c := Option.some.inj e
      exact ⟨hi', fun _ => Nat.zero_le _⟩
    | succ k ih =>
      intro c e
      have e' : (runF (moved sts ord) k i).bind (nextW (moved sts ord)) = some c := e
      cases q : runF (moved sts ord) k i with
      | none => rw [q] at e'; cases e'
      | some b =>
        rw [q] at e'
        have e2 : nextW (moved sts ord) b = some c := e'
        obtain ⟨hb, gb⟩ := ih b q
        have hc : c < n := nextW_lt all_ (by omega) e2
        refine ⟨hc, fun h => ?_⟩
        have hbl : b < ord.length := by rw [o.len]; exact hb
        have gb' := gb hbl
        have hob : ord[b] < n := (o.mem _).mp (List.getElem_mem hbl)
        have okb := ok _ hob
        obtain ⟨a, ss, es, oks⟩ := isState_two okb
        unfold nextW at e2
        unfold stepD at e2
        rw [moved_get hbl, es] at e2
        have e3 : stepsOf (mvState ord (.tuple [a, .tuple ss])) = ss.map (mvStep ord) := rfl
        rw [e3, leadD_mv oks] at e2
        cases ld : leadD ss "wait" with
        | none =>
          rw [ld] at e2
          have : (if ("wait" : Str) = "out" ∨ ("wait" : Str) = "up" then PyData.str "give" else .none) = .none := if_neg (by decide)
          simp only [Option.map_none] at e2
          rw [this] at e2
          cases e2
        | some g =>
          rw [ld] at e2
          rcases isG_cases (leadD_goal oks ld) with ⟨s, hs, rfl⟩ | ⟨j, hj, rfl⟩
          · cases e2
          · have e4 : ((ord.idxOf j : Nat) : Int).toNat = c := Option.some.inj e2
            rw [Int.toNat_natCast] at e4
            have lt := up ord[b] j hob (by rw [es]; exact ld)
            have mem := (o.mem j).mpr hj
            have gj : ord[c] = j := by
              subst e4
              exact List.getElem_idxOf _
            omega
  cases q : runF (moved sts ord) n i with
  | none => exact Bool.false_ne_true
  | some c =>
    obtain ⟨hc, g⟩ := grow n c q
    have hcl : c < ord.length := by rw [o.len]; exact hc
    have := g hcl
    have := (o.mem _).mp (List.getElem_mem hcl)
    omega
end SG
namespace SG
open PySem PySem.Spec PyProof.Rows L2
theorem paired_of {α β : Type} {R : α → β → Prop} : ∀ {xs : List α} {ys : List β}, xs.length = ys.length → (∀ (j : Nat) x y, xs[j]? = some x → ys[j]? = some y → R x y) → Paired R xs ys
  | [], [], _, _ => .nil
  | x :: xs, y :: ys, l, h => .cons (h 0 x y rfl rfl) (paired_of (by simpa using l) fun j a b ha hb => h (j + 1) a b (by simpa using ha) (by simpa using hb))
  | [], _ :: _, l, _ => by simp at l
  | _ :: _, [], l, _ => by simp at l
def nums (ord : List Nat) : List V := ord.map fun i => V.int ((i : Nat) : Int)
def spotK (ord : List Nat) : List (Key × V) := (List.range ord.length).map fun k => ((Sum.inl ((ord.getD k 0 : Nat) : Int) : Key), V.int ((k : Nat) : Int))
theorem spot_str {ord : List Nat} {s : Str} : valV (spotK ord) (Sum.inr s : Key) = none := by
  unfold valV
  rw [List.find?_eq_none.mpr ?_]
  · rfl
  · intro kv hkv
    obtain ⟨k, _, rfl⟩ := List.mem_map.mp hkv
    intro z
    have := of_decide_eq_true z
    cases this
theorem spot_int {ord : List Nat} {n j : Nat} (o : Ord n ord) (hj : j < n) : valV (spotK ord) (Sum.inl ((j : Nat) : Int) : Key) = some (.int ((ord.idxOf j : Nat) : Int)) := by
  have hm := (o.mem j).mpr hj
  have hi := List.idxOf_lt_length_iff.mpr hm
  have g : ord.getD (ord.idxOf j) 0 = j := by
    rw [List.getD_eq_getElem?_getD, List.getElem?_eq_getElem hi]
    exact List.getElem_idxOf hi
  unfold valV
  cases e : (spotK ord).find? (fun kv => decide (kv.1 = (Sum.inl ((j : Nat) : Int) : Key))) with
  | none =>
    rw [List.find?_eq_none] at e
    have := e (Sum.inl ((j : Nat) : Int), V.int ((ord.idxOf j : Nat) : Int)) (List.mem_map.mpr ⟨ord.idxOf j, List.mem_range.mpr hi, by rw [g]⟩)
    exact absurd (decide_eq_true rfl) this
  | some kv =>
    have hkv := List.mem_of_find?_eq_some e
    have hp := List.find?_some e
    obtain ⟨k, hk, rfl⟩ := List.mem_map.mp hkv
    have hk' := List.mem_range.mp hk
    have e1 : ((ord.getD k 0 : Nat) : Int) = j := Sum.inl.inj (of_decide_eq_true hp)
    have e2 : ord[k] = j := by
      rw [List.getD_eq_getElem?_getD, List.getElem?_eq_getElem hk'] at e1
      exact Int.ofNat_inj.mp e1
    have e3 : ord.idxOf j = k := by
      rw [← e2]
      exact o.nd.idxOf_getElem k hk'
    show some (V.int ((k : Nat) : Int)) = _
    rw [e3]
theorem spot_nodup {ord : List Nat} (nd : ord.Nodup) : ((([] : List (Key × V)) ++ spotK ord).map (·.1)).Nodup := by
  rw [List.nil_append]
  unfold spotK
  rw [List.map_map, List.Nodup, List.pairwise_map]
  rw [List.pairwise_iff_getElem]
  intro i j hi hj lt z
  rw [List.length_range] at hi hj
  rw [List.getElem_range, List.getElem_range] at z
  have z' : ((ord.getD i 0 : Nat) : Int) = ((ord.getD j 0 : Nat) : Int) := Sum.inl.inj z
  rw [List.getD_eq_getElem?_getD, List.getD_eq_getElem?_getD, List.getElem?_eq_getElem hi, List.getElem?_eq_getElem hj] at z'
  have z2 : ord[i] = ord[j] := Int.ofNat_inj.mp z'
  rw [List.Nodup, List.pairwise_iff_getElem] at nd
  exact nd i j hi hj lt z2
mutual
/-- no list within -/
def noL : PyData → Bool
  | .none | .bool _ | .int _ | .str _ => true
  | .tuple xs => noLAll xs
  | .list _ | .dict _ => false
def noLAll : List PyData → Bool
  | [] => true
  | x :: xs => noL x && noLAll xs
end
mutual
theorem Fz.keepT {K : PySem.W.Frag} {H H' : Hp} (t : ∀ a xs, Tz H a xs → Tz H' a xs) : ∀ {d : PyData} {v : V}, noL d = true → Fz K H v d → Fz K H' v d
  | .none, _, _, q => by cases q; exact .non
  | .bool _, _, _, q => by cases q; exact .bl _
  | .int _, _, _, q => by cases q; exact .int _
  | .str _, _, _, q => by cases q; exact .str _
  | .tuple ds, _, h, q => by
    cases q with
    | tup a b => exact .tup (t _ _ a) (FzAll.keepT (ds := ds) t h b)
  | .list _, _, h, _ => by cases h
  | .dict _, _, h, _ => by cases h
theorem FzAll.keepT {K : PySem.W.Frag} {H H' : Hp} (t : ∀ a xs, Tz H a xs → Tz H' a xs) : ∀ {ds : List PyData} {vs : List V}, noLAll ds = true → FzAll K H vs ds → FzAll K H' vs ds
  | [], _, _, q => by cases q; exact .nil
  | d :: ds, _, h, q => by
    have h' : (noL d && noLAll ds) = true := h
    rw [Bool.and_eq_true] at h'
    cases q with
    | cons a b => exact .cons (Fz.keepT t h'.1 a) (FzAll.keepT t h'.2 b)
end
theorem noLAll_mem : ∀ {ds : List PyData}, (∀ d ∈ ds, noL d = true) → noLAll ds = true
  | [], _ => rfl
  | d :: ds, h => by
    show (noL d && noLAll ds) = true
    rw [h d (by simp), noLAll_mem fun e he => h e (by simp [he])]; rfl
theorem isG_noL {n : Nat} {g : PyData} (h : isG n g = true) : noL g = true := by
  rcases isG_cases h with ⟨s, _, rfl⟩ | ⟨j, _, rfl⟩ <;> rfl
theorem isStep_noL {n : Nat} {d : PyData} (h : isStep n d = true) : noL d = true := by
  obtain ⟨w, g, rfl, _, hg⟩ := isStep_parts h
  show (true && (noL g && true)) = true
  rw [isG_noL hg]; rfl
theorem isState_noL {n : Nat} {d : PyData} (h : isState n d = true) : noL d = true := by
  obtain ⟨a, ss, rfl, oks⟩ := isState_two h
  have ha : noL a = true := by
    rw [isState_eq, Bool.and_eq_true, Bool.or_eq_true] at h
    rcases h.1 with h | h
    · cases a <;> first | rfl | cases h
    · cases a <;> first | rfl | cases h
  show (noL a && (noLAll ss && true)) = true
  rw [ha, noLAll_mem fun s hs => isStep_noL (List.all_eq_true.mp oks s hs)]; rfl
theorem Tz.put_lst {H : Hp} {p a : Addr} {ys zs xs : List V} (h : H p = some (.lst ys)) (z : Tz H a xs) : Tz (upd H p (.lst zs)) a xs := by
  obtain ⟨o, e, d⟩ := z
  exact ⟨o, by rw [upd_ne (fun q => by rw [q, h] at e; cases e)]; exact e, d⟩
def spMoved (K : PySem.W.Frag) : Sp := fun vs H Q _ => ∃ (s o : Addr) (sts : List PyData) (xs : List V) (ord : List Nat) (n : Nat), vs = [.ref s, .ref o] ∧ H s = some (.lst xs) ∧ FzAll K H xs sts ∧ sts.length = n ∧ H o = some (.lst (nums ord)) ∧ Ord n ord ∧
  (1 ≤ n ∧ n ≤ 8) ∧ (∀ d ∈ sts, isState n d = true ∧ wt d ≤ 10000) ∧ ∀ H' v, Same H H' → Fz K H' v (.tuple (moved sts ord)) → Q v H'
section
variable {P : Program} {w : World} {K : PySem.W.Frag} {mg : Str → Option Value} {base : Heap}
theorem ok_moved (D : Df K mg "_law_moved" s_law_moved ["_law_states", "_law_order"]) (T : Txt K mg) : Cl P w K mg base 1 "_law_moved" (spMoved K) := by
  refine D.ok sc_law_moved (fun vs H Q E h => ?_) (fun f cdv A outer s H vs Q E hr h => ?_)
  · obtain ⟨s, o, sts, xs, ord, n, rfl, _⟩ := h
    rfl
  obtain ⟨st, od, sts, xs, ord, n, rfl, hs, fs, ln, ho, oo, ⟨n1, n8⟩, oks, k⟩ := h
  have hu := hu_of hr
  have big : 100000 ≤ sizeLine := by decide
  have lno := oo.len
  refine ⟨_, -- _law_spots = dict([(_law_order[_law_k], _law_k) for _law_k in range(len(_law_order))])
    (pss_cons (ps_set (i := 2) sc_law_moved.nd rfl (Or.inr rfl) (pe_callTy (call_dictP rfl) (by rfl) T.m_dict (by decide +kernel) (pa_cons (pe_lc (own := [("_law_k", 7)]) rfl sc_law_moved.nd (pi_range1 rfl T.m_range (pa_cons (pe_callB call_len_seq (by rfl) T.m_len PySem.boot_len (pa_cons (pv 1) pa_nil)) pa_nil)) (blkOk_by (N := N_law_moved) (sc := defScope s_law_moved) (by decide +kernel)) (fun _ _ _ _ _ => (pg_name (i := 7) sc_law_moved.nd rfl (Or.inl rfl))) (fun _ _ _ _ _ => pts_nil) (fun _ _ _ _ _ => (pe_tupF (pa_cons (pe_ix (r := rIxL K) ix_list (pv 1) (pv 7) (fun _ _ => rfl)) (pa_cons (pv 7) pa_nil))))) pa_nil)))
    (pss_cons (ps_set (i := 3) sc_law_moved.nd rfl (Or.inl rfl) (pe_lst pa_nil))
    (pss_cons (ps_for PassesOwn.never rfl (pi_list (pv 1)) (pg_name (i := 4) sc_law_moved.nd rfl (Or.inl rfl))
      (pss_cons (ps_asg (pe_ix ix_list (pv 0) (pv 4) (fun _ _ => rfl)) (pg_tup rfl (pgs_cons (pg_name (i := 5) sc_law_moved.nd rfl (Or.inl rfl)) (pgs_cons (pg_name (i := 6) sc_law_moved.nd rfl (Or.inl rfl)) pgs_nil))))
      (pss_one (ps_expr (pe_bm PySem.F.plainAttrs_list PySem.F.slot_list_append PySem.F.type_list_append mt_append (pv 3) (pa_cons (pe_tupF (pa_cons (pv 5) (pa_cons (pe_tupleOfF rfl T.m_tuple (pe_lc (own := [("_law_word", 8), ("_law_goal", 9)]) rfl sc_law_moved.nd (pi_tup (pv 6)) (blkOk_by (N := N_law_moved) (sc := defScope s_law_moved) (by decide +kernel)) (fun _ _ _ _ _ => (pg_two (K := K) (i := 8) (j := 9) rfl rfl sc_law_moved.nd rfl rfl (Or.inl rfl) (Or.inl rfl))) (fun _ _ _ _ _ => pts_nil) (fun _ _ _ _ _ => (pe_tupF (pa_cons (pv 8) (pa_cons (pe_dget2 hu (pv 2) (pv 9) (pv 9) ⟨by rfl, by rfl, by rfl, by rfl⟩) pa_nil)))))) pa_nil))) pa_nil))))))
    (pss_one (ps_ret (pe_tupleOfF rfl T.m_tuple (pv 3))))))), ?_⟩
  have lnn : (nums ord).length = n := by unfold nums; rw [List.length_map]; exact lno
  refine ⟨_, rfl, _, _, rfl, .inl (SqL.of ho), _, rfl, by omega, by omega, ?_⟩
  rw [show (((nums ord).length : Nat) : Int).toNat = n by omega]
  intro dd dd0
  refine lc_range (n := n) (fun i Hx => ∃ ps : List Addr, Hx dd = some (.lst (ps.map V.ref)) ∧ ps.length = i ∧ (∀ j p, ps[j]? = some p → SqT K Hx p [.int ((ord.getD j 0 : Nat) : Int), .int ((j : Nat) : Int)]) ∧ Same H Hx) ⟨[], upd_same, rfl, fun j p e => by simp at e, same_new dd0⟩ ?_ ?_
  · rintro i Hx hi ⟨ps, x1, x2, x3, sx⟩
    refine ⟨rfl, ?_⟩
    have hio : i < ord.length := by omega
    have eo : (nums ord)[i]? = some (.int ((ord.getD i 0 : Nat) : Int)) := by
      unfold nums
      rw [List.getElem?_map, List.getD_eq_getElem?_getD, List.getElem?_eq_getElem hio]; rfl
    refine ⟨_, rfl, _, rfl, od, nums ord, _, _, rfl, rfl, SqL.of (sx _ _ ho), at_of' (j := i) (by omega) eo, _, rfl, (by show 2 ≤ sizeLine; decide), fun p o p0 od' => ?_⟩
    generalize hH : upd Hx p (.frz o (.tup [.int ((ord.getD i 0 : Nat) : Int), .int (0 + (i : Int))])) = H1
    have s1 : Same Hx H1 := by rw [← hH]; exact same_new p0
    have z1 : SqT K H1 p [.int ((ord.getD i 0 : Nat) : Int), .int (0 + (i : Int))] := .inl (.inr ⟨o, by rw [← hH]; exact upd_same⟩)
    rw [Int.zero_add] at z1
    have sm : Same H (upd H1 dd (.lst (ps.map V.ref ++ [.ref p]))) := fun q u e => by
      rw [upd_ne (ne_of_none e dd0)]
      exact s1 _ _ (sx _ _ e)
    have keepT : ∀ {q : Addr} {ys : List V}, SqT K H1 q ys → SqT K (upd H1 dd (.lst (ps.map V.ref ++ [.ref p]))) q ys := by
      intro q ys hq
      have e1 := s1 _ _ x1
      rcases hq with (h | ⟨o', h⟩) | h
      · exact .inl (.inl (by rw [upd_ne (fun z => by rw [z, e1] at h; cases h)]; exact h))
      · exact .inl (.inr ⟨o', by rw [upd_ne (fun z => by rw [z, e1] at h; cases h)]; exact h⟩)
      · exact .inr h
    refine ⟨_, s1 _ _ x1, by rw [List.length_map]; omega, ps ++ [p], by rw [upd_same, List.map_append]; rfl, by rw [List.length_append, x2]; rfl, ?_, sm⟩
    intro j q e
    by_cases hj : j < ps.length
    · rw [List.getElem?_append_left hj] at e
      exact keepT (same_sqT s1 (x3 j q e))
    · have hj2 := (List.getElem?_eq_some_iff.mp e).1
      rw [List.length_append] at hj2
      have hj3 : j = ps.length := by
        have : ([p] : List Addr).length = 1 := rfl
        omega
      subst hj3
      rw [List.getElem?_append_right (Nat.le_refl _), Nat.sub_self] at e
      obtain rfl := Option.some.inj e
      rw [x2]
      exact keepT z1
  · rintro Hx ⟨ps, x1, x2, x3, sx⟩
    have few : (ps.map V.ref).length = n := by rw [List.length_map]; exact x2
    have lk : (spotK ord).length = n := by unfold spotK; rw [List.length_map, List.length_range]; exact lno
    refine ⟨dd, ps, spotK ord, rfl, SqL.of x1, paired_of (by rw [x2, lk]) ?_, fun sp sp0 => ?_⟩
    · intro j p kv hp hkv
      have hj : j < ord.length := by
        have := (List.getElem?_eq_some_iff.mp hp).1
        omega
      unfold spotK at hkv
      rw [List.getElem?_map, List.getElem?_range hj] at hkv
      obtain rfl := Option.some.inj hkv
      exact x3 j p hp
    rw [merge_nodup _ _ (spot_nodup oo.nd), List.nil_append]
    generalize hH : upd Hx sp (.dK (spotK ord)) = H1
    have s1 : Same Hx H1 := by rw [← hH]; exact same_new sp0
    have hsp : H1 sp = some (.dK (spotK ord)) := by rw [← hH]; exact upd_same
    have s01 := sx.trans s1
    refine ⟨(by show 0 ≤ sizeLine; decide), fun fo fo0 => ?_⟩
    generalize hG : upd H1 fo (.lst []) = H2
    have s2 : Same H1 H2 := by rw [← hG]; exact same_new fo0
    have hfo : H2 fo = some (.lst []) := by rw [← hG]; exact upd_same
    have s02 := s01.trans s2
    have fo1 := fo0
    refine ⟨_, rfl, od, rfl, ⟨_, SqL.of (s02 _ _ ho)⟩, ?_⟩
    refine for_list (K := K) (a := od) (xs := nums ord) (fun i σ Hz => ∃ (k4 k5 k6 : Option V) (ys : List V), σ = [some (.ref st), some (.ref od), some (.ref sp), some (.ref fo), k4, k5, k6, none, none, none] ∧ Same H1 Hz ∧ Hz fo = some (.lst ys) ∧ FzAll K Hz ys ((ord.take i).map fun a => mvState ord (sts.getD a .none))) ⟨none, none, none, [], rfl, s2, hfo, .nil⟩ (fun i σ Hz _ ⟨_, _, _, _, _, sz', _⟩ => SqL.of (sz' _ _ (s01 _ _ ho))) ?_ ?_
    · rintro i v σ Hz hi ⟨k4, k5, k6, ys, rfl, sz', hys, fys⟩
      have hil := (List.getElem?_eq_some_iff.mp hi).1
      rw [lnn] at hil
      have hio : i < ord.length := by omega
      have eo : (nums ord)[i]? = some (.int ((ord[i] : Nat) : Int)) := by
        unfold nums
        rw [List.getElem?_map, List.getElem?_eq_getElem hio]; rfl
      rw [hi] at eo
      obtain rfl := Option.some.inj eo
      have ha : ord[i] < n := (oo.mem _).mp (List.getElem_mem hio)
      generalize hat : ord[i] = at_ at ha
      have es : sts[at_]? = some sts[at_] := List.getElem?_eq_getElem (by omega)
      obtain ⟨okd, szd⟩ := oks sts[at_] (List.getElem_mem (by omega))
      obtain ⟨a, ss, ed, okss⟩ := isState_two okd
      obtain ⟨u, eu, fu⟩ := fs.get es
      rw [ed] at fu szd okd
      have s0z := s01.trans sz'
      have few : 12 * ss.length ≤ 10000 := by
        have := wtAll_len ss
        simp only [wt, wtAll] at szd
        omega
      have fuz := fu.same s0z
      obtain ⟨t2, xs2, rfl, z2, al2⟩ := fuz.tupOf
      obtain ⟨p, q, rfl, fp, fq⟩ := al2.two
      obtain ⟨t3, ys3, rfl, z3, al3⟩ := fq.tupOf
      have l3 := al3.len
      refine ⟨_, rfl, _, rfl, st, xs, _, _, rfl, rfl, SqL.of (s0z _ _ hs), atI_nat eu, t2, _, rfl, z2.sq, rfl, _, _, rfl, _, _, rfl, rfl, ?_⟩
      refine ⟨_, rfl, .inl ⟨rfl, _, SqL.of hys⟩, _, rfl, _, rfl, t3, rfl, ⟨_, z3.sq⟩, ?_⟩
      intro d2 d20
      refine lc_tup (K := K) (a := t3) (xs := ys3) (fun j Hw => ∃ zs : List V, Hw d2 = some (.lst zs) ∧ zs.length = j ∧ FzAll K Hw zs ((ss.take j).map (mvStep ord)) ∧ Same Hz Hw) ⟨[], upd_same, rfl, .nil, same_new d20⟩ (fun j Hw _ ⟨_, _, _, _, sw⟩ => same_sqT sw z3.sq) ?_ ?_
      · rintro j y Hw hj ⟨zs, x1', x2', x3', sw⟩
        have hjl := (List.getElem?_eq_some_iff.mp hj).1
        have hjs : j < ss.length := by omega
        have e2 : ss[j]? = some ss[j] := List.getElem?_eq_getElem hjs
        have okj := List.all_eq_true.mp okss ss[j] (List.getElem_mem hjs)
        obtain ⟨wz, g, eg, hwz, hg⟩ := isStep_parts okj
        obtain ⟨v', ev, hv⟩ := al3.get e2
        rw [hj] at ev
        obtain rfl := Option.some.inj ev
        have et : ss.take (j + 1) = ss.take j ++ [.tuple [.str wz, g]] := by rw [List.take_succ, e2, eg]; rfl
        rw [eg] at hv
        obtain ⟨t4, zs4, rfl, z4, al4⟩ := hv.tupOf
        obtain ⟨y1, y2, rfl, h1, h2⟩ := al4.two
        obtain rfl : y1 = .str wz := by cases h1; rfl
        have spw := sw _ _ (sz' _ _ hsp)
        obtain ⟨o2, dg, res⟩ : ∃ o2, DGet Hw sp y2 o2 ∧ Fz K Hw (o2.getD y2) (mvG ord g) := by
          rcases isG_cases hg with ⟨s, _, rfl⟩ | ⟨m, hm, rfl⟩
          · obtain rfl : y2 = .str s := by cases h2; rfl
            refine ⟨_, DGet.k (k := Sum.inr s) spw, ?_⟩
            rw [spot_str]
            exact .str _
          · obtain rfl : y2 = .int m := by cases h2; rfl
            refine ⟨_, DGet.k (k := Sum.inl (m : Int)) spw, ?_⟩
            rw [spot_int oo hm]
            exact .int _
        refine ⟨t4, _, rfl, (z4.same sw).sq, rfl, _, _, rfl, _, _, rfl, rfl, rfl, ?_⟩
        refine ⟨_, rfl, _, rfl, sp, rfl, .inl ⟨_, .inl spw⟩, _, rfl, _, rfl, o2, dg, (by show 2 ≤ sizeLine; decide), new_kt (K := K) (.cons (.str wz) (.cons res .nil)) fun t5 xs5 Hv sv z5 f5 => ?_⟩
        have s_up : ∀ {ws : List V}, Same Hz (upd Hv d2 (.lst ws)) := fun p o e => by
          rw [upd_ne (ne_of_none e d20)]
          exact sv _ _ (sw _ _ e)
        have nol : noLAll ((ss.take (j + 1)).map (mvStep ord)) = true := noLAll_mem fun d hd => by
          obtain ⟨s', hs', rfl⟩ := List.mem_map.mp hd
          exact isStep_noL (isStep_mv oo (List.all_eq_true.mp okss s' (List.mem_of_mem_take hs')))
        refine ⟨zs, sv _ _ x1', by omega, zs ++ [.ref t5], upd_same, by rw [List.length_append, x2']; rfl, ?_, s_up⟩
        refine FzAll.keepT (fun a' xs' z => z.put_lst (sv _ _ x1')) nol ?_
        rw [et, List.map_append]
        exact (x3'.same sv).append (.cons (.tup z5 f5) .nil)
      · rintro Hw ⟨zs, x1', x2', x3', sw⟩
        rw [l3, List.take_length] at x3'
        refine .inl ⟨d2, zs, rfl, SqL.of x1', new_kt (K := K) x3' fun t5 xs5 Hv sv z5 f5 => ?_⟩
        have s1v := sw.trans sv
        refine ⟨(by show 2 ≤ sizeLine; decide), new_kt (K := K) (.cons (fp.same s1v) (.cons (.tup z5 f5) .nil)) fun t6 xs6 Hu su z6 f6 => ?_⟩
        have s2v := s1v.trans su
        have lys := fys.len
        rw [List.length_map, List.length_take] at lys
        have et : ord.take (i + 1) = ord.take i ++ [at_] := by rw [List.take_succ, List.getElem?_eq_getElem hio, hat]; rfl
        have edd : sts.getD at_ .none = .tuple [a, .tuple ss] := by rw [List.getD_eq_getElem?_getD, es, ed]; rfl
        have nol : noLAll ((ord.take (i + 1)).map fun a => mvState ord (sts.getD a .none)) = true := noLAll_mem fun d hd => by
          obtain ⟨b, hb, rfl⟩ := List.mem_map.mp hd
          have hb' : b < n := (oo.mem b).mp (List.mem_of_mem_take hb)
          have eb : sts[b]? = some sts[b] := List.getElem?_eq_getElem (by omega)
          rw [List.getD_eq_getElem?_getD, eb]
          exact isState_noL (isState_mv oo (oks sts[b] (List.getElem_mem (by omega))).1)
        refine ⟨fo, ys, _, rfl, rfl, s2v _ _ hys, by omega, _, _, _, ys ++ [.ref t6], rfl, ?_, upd_same, ?_⟩
        · intro p' o' e'
          rw [upd_ne (fun z => by rw [z, fo1] at e'; cases e')]
          exact s2v _ _ (sz' _ _ e')
        · refine FzAll.keepT (fun a' xs' z => z.put_lst (s2v _ _ hys)) nol ?_
          rw [et, List.map_append]
          refine (fys.same s2v).append (.cons ?_ .nil)
          show Fz K Hu (.ref t6) (mvState ord (sts.getD at_ .none))
          rw [edd]
          exact .tup z6 f6
    · rintro σ Hz ⟨k4, k5, k6, ys, rfl, sz', hys, fys⟩
      rw [lnn, show ord.take n = ord by rw [← lno]; exact List.take_length] at fys
      exact ⟨_, rfl, .inl ⟨fo, ys, rfl, SqL.of hys, fun p o p0 od' => k _ _ ((s01.trans sz').trans (same_new p0)) (.tup ⟨o, upd_same, od'⟩ (fys.same (same_new p0)))⟩⟩
end
end SG
/-! drawn states -/
namespace SG
open PySem PySem.Spec PyProof.Rows L2
theorem seen_of_nodup {xs : List Str} (h : xs.Nodup) : ∀ i, i ≤ xs.length → (seen xs i).length = i := by
  intro i
  induction i with
  | zero => intro _; simp [seen]
  | succ i ih =>
    intro hi
    rw [seen_succ (List.getElem?_eq_getElem hi), dedup_len, seen_any xs _ i (by omega)]
    have no : ¬ (xs.take i).any (· == xs[i]) = true := by
      intro z
      obtain ⟨x, hx, e⟩ := List.any_eq_true.mp z
      obtain ⟨j, hj, ej⟩ := List.mem_iff_getElem.mp hx
      rw [List.length_take] at hj
      rw [List.getElem_take] at ej
      have e' := eq_of_beq e
      rw [List.Nodup, List.pairwise_iff_getElem] at h
      exact h j i (by omega) hi (by omega) (ej.trans e')
    rw [if_neg no, ih (by omega)]
theorem ord_insert {n r : Nat} {ord : List Nat} (o : Ord n ord) (h : r ≤ n) : Ord (n + 1) (ord.take r ++ [n] ++ ord.drop r) := by
  have p : (ord.take r ++ [n] ++ ord.drop r).Perm (n :: ord) := by
    have a : (ord.take r ++ [n] ++ ord.drop r).Perm ([n] ++ (ord.take r ++ ord.drop r)) := by
      rw [List.append_assoc]
      exact List.perm_append_comm_assoc _ _ _
    rwa [List.take_append_drop] at a
  refine ⟨?_, ?_, ?_⟩
  · rw [p.nodup_iff, List.nodup_cons]
    exact ⟨fun z => by have := (o.mem n).mp z; omega, o.nd⟩
  · rw [p.length_eq, List.length_cons, o.len]
  · intro i
    rw [p.mem_iff, List.mem_cons, o.mem i]
    omega
/-- steps drawn by the words out, up, down -/
structure Pre (n : Nat) (ws : List Str) (ss : List PyData) : Prop where
  ok : ss.all (isStep n) = true
  sub : (ss.map wordOf).Sublist ws
theorem Pre.skip {n : Nat} {ws : List Str} {ss : List PyData} (p : Pre n ws ss) (w : Str) : Pre n (ws ++ [w]) ss := ⟨p.ok, p.sub.trans (List.sublist_append_left ws [w])⟩
theorem Pre.take {n : Nat} {ws : List Str} {ss : List PyData} {w : Str} {g : PyData} (p : Pre n ws ss) (hw : w ∈ wordsL) (hg : isG n g = true) : Pre n (ws ++ [w]) (ss ++ [.tuple [.str w, g]]) := by
  refine ⟨?_, ?_⟩
  · rw [List.all_append, p.ok]
    show ((inL wordsL (.str w) && isG n g) && true) = true
    rw [inL_of hw, hg]; rfl
  · rw [List.map_append]
    exact p.sub.append (List.Sublist.refl _)
/-- the state of drawn steps, a wait and where it goes -/
theorem drawn_state {n i r : Nat} {a g : PyData} {ss : List PyData} (p : Pre n ["out", "up", "down"] ss) (ha : (SG.isNon a || bet a 1 10000) = true) (hg : isG n g = true) (up : ∀ j : Nat, g = .int j → i < j) :
    isState n (.tuple [a, .tuple ((ss.take r ++ [PyData.tuple [.str "wait", g]] ++ ss.drop r).filter fun s => !SG.isNon a || !(wordOf s == "wait"))]) = true ∧
    ∀ j : Nat, leadD ((ss.take r ++ [PyData.tuple [.str "wait", g]] ++ ss.drop r).filter fun s => !SG.isNon a || !(wordOf s == "wait")) "wait" = some (.int j) → i < j := by
  have nw : ∀ s ∈ ss, (wordOf s == "wait") = false := by
    intro s hs
    have := p.sub.subset (List.mem_map.mpr ⟨s, hs, rfl⟩)
    simp only [List.mem_cons, List.not_mem_nil, or_false] at this
    rcases this with e | e | e <;> rw [e] <;> decide
  have nd : (ss.map wordOf).Nodup := p.sub.nodup (by decide)
  have wok : isStep n (.tuple [.str "wait", g]) = true := by
    show (inL wordsL (.str "wait") && isG n g) = true
    rw [hg, Bool.and_true]
    exact inL_of (by decide)
  have perm : (ss.take r ++ [PyData.tuple [.str "wait", g]] ++ ss.drop r).Perm (.tuple [.str "wait", g] :: ss) := by
    have q : (ss.take r ++ [PyData.tuple [.str "wait", g]] ++ ss.drop r).Perm ([PyData.tuple [.str "wait", g]] ++ (ss.take r ++ ss.drop r)) := by
      rw [List.append_assoc]
      exact List.perm_append_comm_assoc _ _ _
    rwa [List.take_append_drop] at q
  generalize hfull : ss.take r ++ [PyData.tuple [.str "wait", g]] ++ ss.drop r = full at perm
  have okf : full.all (isStep n) = true := by
    rw [List.all_eq_true]
    intro s hs
    rcases List.mem_cons.mp (perm.mem_iff.mp hs) with rfl | h
    · exact wok
    · exact List.all_eq_true.mp p.ok s h
  have ndf : (full.map wordOf).Nodup := by
    rw [(perm.map wordOf).nodup_iff, List.map_cons, List.nodup_cons]
    refine ⟨fun z => ?_, nd⟩
    obtain ⟨s, hs, e⟩ := List.mem_map.mp z
    have := nw s hs
    rw [e] at this
    exact Bool.noConfusion ((show (wordOf (PyData.tuple [.str "wait", g]) == "wait") = true from beq_self_eq_true ("wait" : Str)).symm.trans this)
  have wf : (.tuple [.str "wait", g] : PyData) ∈ full := perm.mem_iff.mpr (by simp)
  cases hn : SG.isNon a with
  | true =>
    have ef : (full.filter fun s => !true || !(wordOf s == "wait")).all (isStep n) = true := by
      rw [List.all_eq_true]
      exact fun s hs => List.all_eq_true.mp okf s (List.mem_filter.mp hs).1
    have noW : ∀ s ∈ full.filter (fun s => !true || !(wordOf s == "wait")), (wordOf s == "wait") = false := by
      intro s hs
      have := (List.mem_filter.mp hs).2
      simpa using this
    have ndF : ((full.filter fun s => !true || !(wordOf s == "wait")).map wordOf).Nodup := ndf.sublist (List.filter_sublist.map wordOf)
    refine ⟨?_, ?_⟩
    · rw [isState_eq, ha, hn, Bool.true_and]
      unfold isSteps
      rw [ef, Bool.true_and]
      have sl := seen_of_nodup ndF _ (Nat.le_refl _)
      rw [List.length_map] at sl
      rw [sl, decide_eq_true rfl, Bool.true_and]
      rw [show ((full.filter fun s => !true || !(wordOf s == "wait")).map wordOf).any (· == "wait") = false by
        rw [List.any_eq_false]
        intro w hw
        obtain ⟨s, hs, rfl⟩ := List.mem_map.mp hw
        rw [noW s hs]; exact Bool.false_ne_true]
      rfl
    · intro j h
      unfold leadD at h
      rw [List.find?_eq_none.mpr fun s hs => by rw [noW s hs]; exact Bool.false_ne_true] at h
      cases h
  | false =>
    have ef : (full.filter fun s => !false || !(wordOf s == "wait")) = full := by
      rw [List.filter_eq_self]
      intro s _
      rfl
    rw [ef]
    refine ⟨?_, ?_⟩
    · rw [isState_eq, ha, hn, Bool.true_and]
      unfold isSteps
      rw [okf, Bool.true_and]
      have sl := seen_of_nodup ndf _ (Nat.le_refl _)
      rw [List.length_map] at sl
      rw [sl, decide_eq_true rfl, Bool.true_and]
      rw [show (full.map wordOf).any (· == "wait") = true by
        rw [List.any_eq_true]
        exact ⟨"wait", List.mem_map.mpr ⟨_, wf, rfl⟩, beq_self_eq_true _⟩]
      rfl
    · intro j h
      unfold leadD at h
      cases e : full.find? (fun s => wordOf s == "wait") with
      | none => rw [e] at h; cases h
      | some s =>
        rw [e] at h
        have hs := perm.mem_iff.mp (List.mem_of_find?_eq_some e)
        have hw := List.find?_some e
        rcases List.mem_cons.mp hs with rfl | h2
        · exact up j (Option.some.inj h)
        · have := nw s h2
          rw [this] at hw
          cases hw
end SG
namespace SG
open PySem PySem.Spec PyProof.Rows L2
def spMachine (K : PySem.W.Frag) : Sp := fun vs H Q _ => ∃ (t c : Addr) (m n : Nat), vs = [.ref t, .int m] ∧ TapeAt H t c n ∧ (1 ≤ m ∧ m ≤ 8) ∧ n ≤ 1000000 ∧
  ∀ v sts H', TapeAt H' t c (n + 500) → Fr [t] H H' → Fz K H' v (.tuple sts) → isMach (.tuple sts) = true → sts.length = m → gdB 10000 (.tuple sts) = true → wt (.tuple sts) ≤ 10000 → (PyData.tuple sts).depth ≤ 4 → Q v H'
def outs : List Str := ["out", "up", "down"]
def intsV (ws : List Int) : List V := ws.map V.int
def strsV (ws : List Str) : List V := ws.map V.str
theorem nums_insert (ord : List Nat) (r x : Nat) : (nums ord).take r ++ [V.int ((x : Nat) : Int)] ++ (nums ord).drop r = nums (ord.take r ++ [x] ++ ord.drop r) := by
  unfold nums
  rw [List.map_append, List.map_append, List.map_take, List.map_drop]
  rfl
theorem wt_mvG (ord : List Nat) (g : PyData) : SG.wt (mvG ord g) = SG.wt g := by cases g <;> rfl
theorem depth_mvG (ord : List Nat) (g : PyData) : (mvG ord g).depth = g.depth := by cases g <;> rfl
theorem mv_steps {ord : List Nat} {n : Nat} (o : Ord n ord) (h8 : n ≤ 8) : ∀ {ss : List PyData}, ss.all (isStep n) = true → gdBAll 10000 ss = true → wtAll (ss.map (mvStep ord)) = wtAll ss ∧ PyData.depthAll (ss.map (mvStep ord)) = PyData.depthAll ss ∧ gdBAll 10000 (ss.map (mvStep ord)) = true
  | [], _, _ => ⟨rfl, rfl, rfl⟩
  | s :: ss, h, g => by
    rw [List.all_cons, Bool.and_eq_true] at h
    have g' : (gdB 10000 s && gdBAll 10000 ss) = true := g
    rw [Bool.and_eq_true] at g'
    obtain ⟨i1, i2, i3⟩ := mv_steps o h8 h.2 g'.2
    obtain ⟨w, x, rfl, _, hx⟩ := isStep_parts h.1
    have gx : gdB 10000 (mvG ord x) = true := by
      rcases isG_cases (isG_mv o hx) with ⟨z, _, e⟩ | ⟨q, hq, e⟩
      · rcases isG_cases hx with ⟨z', _, e'⟩ | ⟨q', _, e'⟩
        · have gw : ((w.cps.toList.all fun c => decide (c < 1000)) && (gdB 10000 x && true)) = true := g'.1
          rw [e'] at gw ⊢
          simp only [Bool.and_eq_true] at gw
          exact gw.2.1
        · rw [e'] at e; cases e
      · rw [e]; exact gd_int (by omega)
    refine ⟨?_, ?_, ?_⟩
    · show (10 + (SG.wt (.str w) + 2 + (SG.wt (mvG ord x) + 2 + 0))) + 2 + wtAll (ss.map (mvStep ord)) = (10 + (SG.wt (.str w) + 2 + (SG.wt x + 2 + 0))) + 2 + wtAll ss
      rw [i1, wt_mvG]
    · show max (max 0 (max (mvG ord x).depth 0) + 1) (PyData.depthAll (ss.map (mvStep ord))) = max (max 0 (max x.depth 0) + 1) (PyData.depthAll ss)
      rw [i2, depth_mvG]
    · show (gdB 10000 (.tuple [.str w, mvG ord x]) && gdBAll 10000 (ss.map (mvStep ord))) = true
      have gw : ((w.cps.toList.all fun c => decide (c < 1000)) && (gdB 10000 x && true)) = true := g'.1
      simp only [Bool.and_eq_true] at gw
      rw [i3, Bool.and_true]
      show ((w.cps.toList.all fun c => decide (c < 1000)) && (gdB 10000 (mvG ord x) && true)) = true
      rw [gw.1, gx]; rfl
theorem mv_state {ord : List Nat} {n : Nat} {d : PyData} (o : Ord n ord) (h8 : n ≤ 8) (ok : isState n d = true) (g : gdB 10000 d = true) : SG.wt (mvState ord d) = SG.wt d ∧ (mvState ord d).depth = d.depth ∧ gdB 10000 (mvState ord d) = true := by
  obtain ⟨a, ss, rfl, oks⟩ := isState_two ok
  have g' : (gdB 10000 a && (gdBAll 10000 ss && true)) = true := g
  simp only [Bool.and_eq_true] at g'
  obtain ⟨i1, i2, i3⟩ := mv_steps o h8 oks g'.2.1
  refine ⟨?_, ?_, ?_⟩
  · show 10 + (SG.wt a + 2 + ((10 + wtAll (ss.map (mvStep ord))) + 2 + 0)) = 10 + (SG.wt a + 2 + ((10 + wtAll ss) + 2 + 0))
    rw [i1]
  · show max a.depth (max (PyData.depthAll (ss.map (mvStep ord)) + 1) 0) + 1 = max a.depth (max (PyData.depthAll ss + 1) 0) + 1
    rw [i2]
  · show (gdB 10000 a && (gdBAll 10000 (ss.map (mvStep ord)) && true)) = true
    rw [g'.1, i3]; rfl
theorem wtAll_le {M : Nat} : ∀ {ds : List PyData}, (∀ d ∈ ds, SG.wt d ≤ M) → wtAll ds ≤ (M + 2) * ds.length
  | [], _ => Nat.zero_le _
  | d :: ds, h => by
    have a := h d (by simp)
    have b := wtAll_le (M := M) (ds := ds) fun e he => h e (by simp [he])
    show SG.wt d + 2 + wtAll ds ≤ (M + 2) * (ds.length + 1)
    rw [Nat.mul_succ]
    omega
/-- a drawn state, of number j -/
structure Good (n j : Nat) (d : PyData) : Prop where
  ok : isState n d = true
  up : ∀ q : Nat, leadD (stepsOf d) "wait" = some (.int q) → j < q
  gd : gdB 10000 d = true
  wt : SG.wt d ≤ 1200
  dp : d.depth ≤ 3
theorem step_fine {m : Nat} {wz : Str} {g : PyData} (hw : wz ∈ wordsL) (hg : isG m g = true) (h8 : m ≤ 8) : gdB 10000 (.tuple [.str wz, g]) = true ∧ SG.wt (.tuple [.str wz, g]) ≤ 250 ∧ (PyData.tuple [.str wz, g]).depth ≤ 1 := by
  have w1 : wz.length ≤ 4 ∧ (wz.cps.toList.all fun c => decide (c < 1000)) = true := by
    have : ∀ w ∈ wordsL, w.length ≤ 4 ∧ (w.cps.toList.all fun c => decide (c < 1000)) = true := by decide +kernel
    exact this wz hw
  have g1 : gdB 10000 g = true ∧ SG.wt g ≤ 120 ∧ g.depth = 0 := by
    rcases isG_cases hg with ⟨s, hs, rfl⟩ | ⟨j, hj, rfl⟩
    · have : ∀ w ∈ endsL, (w.cps.toList.all fun c => decide (c < 1000)) = true ∧ 70 + 10 * w.length ≤ 120 := by decide +kernel
      have q := this s hs
      exact ⟨q.1, q.2, rfl⟩
    · exact ⟨gd_int (by omega), by show 70 ≤ 120; omega, rfl⟩
  refine ⟨?_, ?_, ?_⟩
  · show ((wz.cps.toList.all fun c => decide (c < 1000)) && (gdB 10000 g && true)) = true
    rw [w1.2, g1.1]; rfl
  · show 10 + ((70 + 10 * wz.length) + 2 + (SG.wt g + 2 + 0)) ≤ 250
    omega
  · show max 0 (max g.depth 0) + 1 ≤ 1
    rw [g1.2.2]; decide
theorem rep_bit {H : Hp} {l : Addr} {kb : Bool} {xs : List V} {Q : VK} (h : H l = some (.lst xs)) (few : xs.length ≤ 1000) (k0 : ∀ p, H p = none → Q (.ref p) (upd H p (.lst []))) (k1 : kb = true → ∀ p, H p = none → Q (.ref p) (upd H p (.lst xs))) : rRep (.ref l) (.int (if kb = true then 1 else 0)) H Q := by
  have big : 1000 ≤ sizeLine := by decide
  cases kb with
  | true => exact ⟨l, 1, xs, rfl, rfl, h, by decide, by decide, by show xs.length * 1 ≤ sizeLine; omega, fun p hp => by
      have e : (List.replicate (1 : Int).toNat xs).flatten = xs := by show (xs ++ []) = xs; exact List.append_nil xs
      rw [e]; exact k1 rfl p hp⟩
  | false => exact ⟨l, 0, xs, rfl, rfl, h, by decide, by decide, by show xs.length * 0 ≤ sizeLine; omega, fun p hp => k0 p hp⟩
theorem rep_any {H : Hp} {l : Addr} {kb : Bool} {xs : List V} {Q : VK} (h : H l = some (.lst xs)) (few : xs.length ≤ 1000) (k : ∀ p zs, H p = none → (zs = [] ∨ (kb = true ∧ zs = xs)) → Q (.ref p) (upd H p (.lst zs))) : rRep (.ref l) (.int (if kb = true then 1 else 0)) H Q :=
  rep_bit h few (fun p hp => k p [] hp (.inl rfl)) fun e p hp => k p xs hp (.inr ⟨e, rfl⟩)
section
variable {P : Program} {w : World} {K : PySem.W.Frag} {mg : Str → Option Value} {base : Heap}
theorem ok_machine (D : Df K mg "_law_machine" s_law_machine ["_law_tape_here", "_law_many"]) (T : Txt K mg) (c_law_draw : Cl P w K mg base 1 "_law_draw" spDraw) (c_law_pick : Cl P w K mg base 2 "_law_pick" (spPick K)) (c_law_moved : Cl P w K mg base 1 "_law_moved" (spMoved K)) :
    Cl P w K mg base 3 "_law_machine" (spMachine K) := by
  refine D.ok sc_law_machine (fun vs H Q E h => ?_) (fun f cdv A outer s H vs Q E hr h => ?_)
  · obtain ⟨t, c, m, n, rfl, _⟩ := h
    rfl
  obtain ⟨t, c, m, n, rfl, hT, ⟨m1, m8⟩, hn, k⟩ := h
  have hu := hu_of hr
  have big : 100000 ≤ sizeLine := by decide
  refine ⟨_, -- _law_waits = _law_pick(_law_tape_here, [[1, 2, 3], [9, 10, 99, 100], [300, 500, 5000, 10000]])
    (pss_cons (ps_set (i := 2) sc_law_machine.nd rfl (Or.inl rfl) (pe_cl c_law_pick (hr.mono (by first | decide | omega)) rfl (pa_cons (pv 0) (pa_cons (pe_lst (pa_cons (pe_lst (pa_cons pe_int (pa_cons pe_int (pa_cons pe_int pa_nil)))) (pa_cons (pe_lst (pa_cons pe_int (pa_cons pe_int (pa_cons pe_int (pa_cons pe_int pa_nil))))) (pa_cons (pe_lst (pa_cons pe_int (pa_cons pe_int (pa_cons pe_int (pa_cons pe_int pa_nil))))) pa_nil)))) pa_nil))))
    (pss_cons (ps_par (i := 3) (j := 4) rfl sc_law_machine.nd rfl rfl (by decide) rfl rfl (pa_cons (pe_lst pa_nil) (pa_cons (pe_lst (pa_cons pe_int pa_nil)) pa_nil)) rfl)
    (pss_cons (ps_for PassesOwn.never rfl (pi_range2 rfl T.m_range (pa_cons pe_int (pa_cons (pv 1) pa_nil))) (pg_name (i := 5) sc_law_machine.nd rfl (Or.inl rfl))
      (pss_one (ps_expr (pe_bm PySem.F.plainAttrs_list PySem.F.slot_list_insert PySem.F.type_list_insert mt_insert (pv 4) (pa_cons (pe_op op_add pe_int (pe_cl c_law_draw (hr.mono (by first | decide | omega)) rfl (pa_cons (pv 0) (pa_cons (pe_callB call_len_seq (by rfl) T.m_len PySem.boot_len (pa_cons (pv 4) pa_nil)) pa_nil)))) (pa_cons (pv 5) pa_nil))))))
    (pss_cons (ps_set (i := 6) sc_law_machine.nd rfl (Or.inl rfl) (pe_cl c_law_pick (hr.mono (by first | decide | omega)) rfl (pa_cons (pv 0) (pa_cons (pe_lst (pa_cons (pe_lst (pa_cons pe_str (pa_cons pe_str pa_nil))) (pa_cons (pe_lst (pa_cons pe_str (pa_cons pe_str (pa_cons pe_str pa_nil)))) (pa_cons (pe_lst (pa_cons pe_str (pa_cons pe_str (pa_cons pe_str pa_nil)))) pa_nil)))) pa_nil))))
    (pss_cons (ps_for PassesOwn.never rfl (pi_range1 rfl T.m_range (pa_cons (pv 1) pa_nil)) (pg_name (i := 5) sc_law_machine.nd rfl (Or.inl rfl))
      (pss_cons (ps_asg (pe_tupF (pa_cons (pe_cl c_law_pick (hr.mono (by first | decide | omega)) rfl (pa_cons (pv 0) (pa_cons (pe_lst (pa_cons pe_non (pa_cons (pe_cl c_law_pick (hr.mono (by first | decide | omega)) rfl (pa_cons (pv 0) (pa_cons (pv 2) pa_nil))) (pa_cons (pe_cl c_law_pick (hr.mono (by first | decide | omega)) rfl (pa_cons (pv 0) (pa_cons (pv 2) pa_nil))) pa_nil)))) pa_nil))) (pa_cons (pe_lst pa_nil) pa_nil))) (pg_tup rfl (pgs_cons (pg_name (i := 7) sc_law_machine.nd rfl (Or.inr rfl)) (pgs_cons (pg_name (i := 8) sc_law_machine.nd rfl (Or.inl rfl)) pgs_nil))))
      (pss_cons (ps_for PassesOwn.never rfl (pi_list (pe_lst (pa_cons pe_str (pa_cons pe_str (pa_cons pe_str pa_nil))))) (pg_name (i := 9) sc_law_machine.nd rfl (Or.inl rfl))
        (pss_cons (ps_set (i := 10) sc_law_machine.nd rfl (Or.inl rfl) (pe_cl c_law_pick (hr.mono (by first | decide | omega)) rfl (pa_cons (pv 0) (pa_cons (pe_op op_cat (pv 6) (pe_op op_rep (pe_lst (pa_cons (pe_cl c_law_draw (hr.mono (by first | decide | omega)) rfl (pa_cons (pv 0) (pa_cons (pv 1) pa_nil))) pa_nil)) pe_int)) pa_nil))))
        (pss_one (ps_expr (pe_bm PySem.F.plainAttrs_list PySem.F.slot_list_extend PySem.F.type_list_extend mt_extend (pv 8) (pa_cons (pe_op op_rep (pe_lst (pa_cons (pe_tupF (pa_cons (pv 9) (pa_cons (pv 10) pa_nil))) pa_nil)) (pe_callTy call_int1 rfl T.m_int (by decide +kernel) (pa_cons (pe_cmpR op_gt (pe_cl c_law_draw (hr.mono (by first | decide | omega)) rfl (pa_cons (pv 0) (pa_cons pe_int pa_nil))) (pe_op op_mul (pe_callTy call_int1 rfl T.m_int (by decide +kernel) (pa_cons (pe_cmpR op_eq (pv 9) pe_str (nomark _)) pa_nil)) pe_int) (nomark _)) pa_nil))) pa_nil))))))
      (pss_cons (ps_set (i := 11) sc_law_machine.nd rfl (Or.inl rfl) (pe_cl c_law_pick (hr.mono (by first | decide | omega)) rfl (pa_cons (pv 0) (pa_cons (pe_op op_cat (pv 6) (pe_op op_rep (pe_op op_rep (pe_lst (pa_cons (pe_callB (call_min2 rfl) (by rfl) T.m_min (by decide +kernel) (pa_cons (pe_op op_sub (pv 1) pe_int) (pa_cons (pe_op op_add (pe_op op_add (pv 5) pe_int) (pe_cl c_law_draw (hr.mono (by first | decide | omega)) rfl (pa_cons (pv 0) (pa_cons (pv 1) pa_nil)))) pa_nil))) pa_nil)) pe_int) (pe_callTy call_int1 rfl T.m_int (by decide +kernel) (pa_cons (pe_cmpR op_lt (pv 5) (pe_op op_sub (pv 1) pe_int) (nomark _)) pa_nil)))) pa_nil))))
      (pss_cons (ps_expr (pe_bm PySem.F.plainAttrs_list PySem.F.slot_list_insert PySem.F.type_list_insert mt_insert (pv 8) (pa_cons (pe_cl c_law_draw (hr.mono (by first | decide | omega)) rfl (pa_cons (pv 0) (pa_cons (pe_op op_add (pe_callB call_len_seq (by rfl) T.m_len PySem.boot_len (pa_cons (pv 8) pa_nil)) pe_int) pa_nil))) (pa_cons (pe_tupF (pa_cons pe_str (pa_cons (pv 11) pa_nil))) pa_nil))))
      (pss_one (ps_expr (pe_bm PySem.F.plainAttrs_list PySem.F.slot_list_append PySem.F.type_list_append mt_append (pv 3) (pa_cons (pe_tupF (pa_cons (pv 7) (pa_cons (pe_tupleOfF rfl T.m_tuple (pe_lc (own := [("_law_step", 12)]) rfl sc_law_machine.nd (pi_list (pv 8)) (blkOk_by (N := N_law_machine) (sc := defScope s_law_machine) (by decide +kernel)) (fun _ _ _ _ _ => (pg_name (i := 12) sc_law_machine.nd rfl (Or.inl rfl))) (fun _ _ _ _ _ => pts_one (PW.pt (pw_or (pt_cmp (pc_notN (pv 7))) (pw_or1 (pt_cmpR op_ne (pe_ix (r := rIxT K) ix_tup (pv 12) pe_int (fun _ _ => rfl)) pe_str (nomark _)))))) (fun _ _ _ _ _ => (pv 12)))) pa_nil))) pa_nil)))))))))
    (pss_one (ps_ret (pe_cl c_law_moved (hr.mono (by first | decide | omega)) rfl (pa_cons (pv 3) (pa_cons (pv 4) pa_nil)))))))))), ?_⟩
  refine ⟨_, rfl, (by show 3 ≤ sizeLine; decide), fun w1 w10 => ?_⟩
  generalize hA : upd H w1 _ = Ha
  have sa := same_is hA w10
  have ha := upd_is hA
  refine ⟨(by show 4 ≤ sizeLine; decide), fun w2 w20 => ?_⟩
  generalize hB : upd Ha w2 _ = Hb
  have sb := same_is hB w20
  have hb := upd_is hB
  refine ⟨(by show 4 ≤ sizeLine; decide), fun w3 w30 => ?_⟩
  generalize hC : upd Hb w3 _ = Hc
  have sc := same_is hC w30
  have hc := upd_is hC
  refine ⟨(by show 3 ≤ sizeLine; decide), fun l l0 => ?_⟩
  generalize hD : upd Hc l _ = Hd
  have sd := same_is hD l0
  have hd := upd_is hD
  have s0d := sa.trans (sb.trans (sc.trans sd))
  refine ⟨t, c, l, _, n, rfl, hT.same s0d, by omega, hd, ⟨by show 1 ≤ 3; omega, by show 3 ≤ 1000; omega⟩, fun v H1 hv T1 F1 => ?_⟩
  have F01 : Fr [t] H H1 := (Fr.same s0d _).trans F1
  obtain ⟨wl, ws, rfl, hwl, wpos, wok⟩ : ∃ (wl : Addr) (ws : List Int), v = .ref wl ∧ H1 wl = some (.lst (intsV ws)) ∧ (1 ≤ ws.length ∧ ws.length ≤ 4) ∧ ∀ x ∈ ws, 1 ≤ x ∧ x ≤ 10000 := by
    have at_ : ∀ {q : Addr} {xs : List V}, Hd q = some (.lst xs) → H1 q = some (.lst xs) := fun e => F1 _ _ e (not_in_one ((hT.same s0d).ne_lst e))
    simp only [List.mem_cons, List.not_mem_nil, or_false] at hv
    rcases hv with rfl | rfl | rfl
    · exact ⟨w1, [1, 2, 3], rfl, at_ ((sb.trans (sc.trans sd)) _ _ ha), by decide, by decide⟩
    · exact ⟨w2, [9, 10, 99, 100], rfl, at_ ((sc.trans sd) _ _ hb), by decide, by decide⟩
    · exact ⟨w3, [300, 500, 5000, 10000], rfl, at_ (sd _ _ hc), by decide, by decide⟩
  refine ⟨(by show 0 ≤ sizeLine; decide), fun st st0 => ?_⟩
  generalize hE : upd H1 st _ = H2
  have s2 := same_is hE st0
  have hst := upd_is hE
  refine ⟨(by show 1 ≤ sizeLine; decide), fun od od0 => ?_⟩
  generalize hF : upd H2 od _ = H3
  have s3 := same_is hF od0
  have hod := upd_is hF
  refine ⟨_, _, rfl, ?_⟩
  have T3 := (T1.same s2).same s3
  have hst3 := s3 _ _ hst
  have hwl3 := s3 _ _ (s2 _ _ hwl)
  have F03 : Fr [t] H H3 := F01.trans (Fr.same (s2.trans s3) _)
  have od_t : od ≠ t := fun z => by obtain ⟨kvs, e⟩ := (T1.same s2).is; rw [← z, od0] at e; cases e
  have od_c : od ≠ c := (T1.same s2).ne_newc od0
  have st_od : st ≠ od := ne_of_none hst od0
  have wl_od : wl ≠ od := ne_of_none (s2 _ _ hwl) od0
  have od_H : H od = none := by
    cases e : H od with
    | none => rfl
    | some u =>
      have := (F01.trans (Fr.same s2 _)) _ _ e (not_in_one od_t)
      rw [od0] at this; cases this
  refine ⟨_, rfl, 1, (m : Int), rfl, ⟨by decide, by decide, by omega, by omega⟩, ?_⟩
  rw [show ((m : Int) - 1).toNat = m - 1 by omega]
  refine for_range (lo := 1) (n := m - 1) (fun i σ Hz => ∃ (k5 : Option V) (ord : List Nat), σ = [some (.ref t), some (.int m), some (.ref wl), some (.ref st), some (.ref od), k5, none, none, none, none, none, none, none] ∧ Ord (i + 1) ord ∧ Hz od = some (.lst (nums ord)) ∧ TapeAt Hz t c (n + 1 + i) ∧ Fr [t, od] H3 Hz) ?_ ?_ ?_
  · exact ⟨none, [0], rfl, ⟨by simp, rfl, fun i => by simp⟩, hod, T3, Fr.refl _ _⟩
  · rintro i σ Hz hi ⟨k5, ord, rfl, oo, ho, Tz', Fz'⟩
    have lo : (nums ord).length = i + 1 := by unfold nums; rw [List.length_map]; exact oo.len
    refine ⟨_, rfl, .inl ⟨rfl, _, SqL.of ho⟩, _, rfl, _, rfl, _, _, rfl, .inl (SqL.of ho), t, c, _, n + 1 + i, rfl, Tz', ⟨by omega, by omega⟩, by omega, fun r H4 hr4 T4 F4 => ?_⟩
    have ho4 := F4 _ _ ho (not_in_one od_t)
    refine ⟨_, _, rfl, rfl, _, rfl, od, _, _, _, rfl, rfl, ho4, by omega, by omega, by omega, ?_⟩
    have eo : (nums ord).take (1 + r).toNat ++ [V.int (1 + (i : Int))] ++ (nums ord).drop (1 + r).toNat = nums (ord.take (1 + r).toNat ++ [i + 1] ++ ord.drop (1 + r).toNat) := by
      rw [show (1 + (i : Int)) = ((i + 1 : Nat) : Int) by omega]
      exact nums_insert ord _ _
    refine ⟨_, ord.take (1 + r).toNat ++ [i + 1] ++ ord.drop (1 + r).toNat, rfl, ord_insert oo (by omega), ?_, T4.put od_t od_c, ?_⟩
    · rw [← eo]
      exact upd_same
    · exact Fz'.trans ((F4.mono (by simp)).trans (Fr.put (by simp)))
  · rintro σ H4 ⟨k5, ord, rfl, oo, ho, T4, F34⟩
    rw [show m - 1 + 1 = m by omega] at oo
    have st_n : st ∉ [t, od] := by simp only [List.mem_cons, List.not_mem_nil, or_false, not_or]; exact ⟨T3.ne_lst hst3, st_od⟩
    have wl_n : wl ∉ [t, od] := by simp only [List.mem_cons, List.not_mem_nil, or_false, not_or]; exact ⟨T3.ne_lst hwl3, wl_od⟩
    have hst4 := F34 _ _ hst3 st_n
    have hwl4 := F34 _ _ hwl3 wl_n
    have F04 : Fr [t] H H4 := fun b o e nb => F34 _ _ (F03 _ _ e nb) (by
      simp only [List.mem_cons, List.not_mem_nil, or_false, not_or] at nb ⊢
      exact ⟨nb, fun z => by rw [z, od_H] at e; cases e⟩)
    have T4' := T4.mono (show n + 1 + (m - 1) ≤ n + 10 by omega)
    refine ⟨_, rfl, (by show 2 ≤ sizeLine; decide), fun e1 e10 => ?_⟩
    generalize hA' : upd H4 e1 _ = Ia
    have ja := same_is hA' e10
    have ga := upd_is hA'
    refine ⟨(by show 3 ≤ sizeLine; decide), fun e2 e20 => ?_⟩
    generalize hB' : upd Ia e2 _ = Ib
    have jb := same_is hB' e20
    have gb := upd_is hB'
    refine ⟨(by show 3 ≤ sizeLine; decide), fun e3 e30 => ?_⟩
    generalize hC' : upd Ib e3 _ = Ic
    have jc := same_is hC' e30
    have gc := upd_is hC'
    refine ⟨(by show 3 ≤ sizeLine; decide), fun l2 l20 => ?_⟩
    generalize hD' : upd Ic l2 _ = Id
    have jd := same_is hD' l20
    have gd' := upd_is hD'
    have j0d := ja.trans (jb.trans (jc.trans jd))
    refine ⟨t, c, l2, _, n + 10, rfl, T4'.same j0d, by omega, gd', ⟨by show 1 ≤ 3; omega, by show 3 ≤ 1000; omega⟩, fun v H5 hv T5 F5 => ?_⟩
    have F45 : Fr [t] H4 H5 := (Fr.same j0d _).trans F5
    obtain ⟨el, es, rfl, el_st, hel, epos, eok⟩ : ∃ (el : Addr) (es : List Str), v = .ref el ∧ el ≠ st ∧ H5 el = some (.lst (strsV es)) ∧ (1 ≤ es.length ∧ es.length ≤ 3) ∧ ∀ x ∈ es, x ∈ endsL := by
      have at_ : ∀ {q : Addr} {xs : List V}, Id q = some (.lst xs) → H5 q = some (.lst xs) := fun e => F5 _ _ e (not_in_one ((T4'.same j0d).ne_lst e))
      simp only [List.mem_cons, List.not_mem_nil, or_false] at hv
      rcases hv with rfl | rfl | rfl
      · exact ⟨e1, ["claim", "give"], rfl, (ne_of_none hst4 e10).symm, at_ ((jb.trans (jc.trans jd)) _ _ ga), by decide, by decide +kernel⟩
      · exact ⟨e2, ["claim", "claim", "give"], rfl, (ne_of_none (ja _ _ hst4) e20).symm, at_ ((jc.trans jd) _ _ gb), by decide, by decide +kernel⟩
      · exact ⟨e3, ["give", "give", "claim"], rfl, (ne_of_none ((ja.trans jb) _ _ hst4) e30).symm, at_ (jd _ _ gc), by decide, by decide +kernel⟩
    have F05 := F04.trans F45
    have hst5 := F45 _ _ hst4 (not_in_one (T4.ne_lst hst4))
    have hwl5 := F45 _ _ hwl4 (not_in_one (T4.ne_lst hwl4))
    have ho5 := F45 _ _ ho (not_in_one (T4.ne_lst ho))
    have wl_st : wl ≠ st := ne_of_none hwl st0
    have st_t : st ≠ t := T4.ne_lst hst4
    have st_c : st ≠ c := T1.ne_newc st0
    have st_H : H st = none := by
      cases e : H st with
      | none => rfl
      | some u =>
        have := F01 _ _ e (not_in_one st_t)
        rw [st0] at this; cases this
    refine ⟨_, rfl, _, rfl, by omega, by omega, ?_⟩
    rw [show ((m : Int)).toNat = m by omega]
    refine for_range (lo := 0) (n := m) (fun i σ Hz => ∃ (k5 k7 k8 k9 k10 k11 : Option V) (ys : List V) (sd : List PyData), σ = [some (.ref t), some (.int m), some (.ref wl), some (.ref st), some (.ref od), k5, some (.ref el), k7, k8, k9, k10, k11, none] ∧ Hz st = some (.lst ys) ∧ FzAll K Hz ys sd ∧ sd.length = i ∧
      (∀ j, j < i → Good m j (sd.getD j .none)) ∧ TapeAt Hz t c (n + 11 + 20 * i) ∧ Fr [t, st] H5 Hz) ?_ ?_ ?_
    · exact ⟨_, none, none, none, none, none, [], [], rfl, hst5, .nil, rfl, fun j hj => by omega, T5, Fr.refl _ _⟩
    · rintro i σ Hz hi ⟨k5, k7, k8, k9, k10, k11, ys, sd, rfl, hys, fys, lsd, good, Tz', F5z⟩
      have wl_n2 : wl ∉ [t, st] := by simp only [List.mem_cons, List.not_mem_nil, or_false, not_or]; exact ⟨T4.ne_lst hwl4, wl_st⟩
      have el_n2 : el ∉ [t, st] := by simp only [List.mem_cons, List.not_mem_nil, or_false, not_or]; exact ⟨T5.ne_lst hel, el_st⟩
      have hwlz := F5z _ _ hwl5 wl_n2
      have helz := F5z _ _ hel el_n2
      have lws : (intsV ws).length = ws.length := by unfold intsV; exact List.length_map _
      refine ⟨_, rfl, _, rfl, _, rfl, t, c, wl, intsV ws, n + 11 + 20 * i, rfl, Tz', by omega, hwlz, by omega, fun v1 G1 hv1 U1 f1 => ?_⟩
      have hwl1 := f1 _ _ hwlz (not_in_one (Tz'.ne_lst hwlz))
      refine ⟨_, rfl, _, rfl, t, c, wl, intsV ws, _, rfl, U1, by omega, hwl1, by omega, fun v2 G2 hv2 U2 f2 => ?_⟩
      refine ⟨(by show 3 ≤ sizeLine; decide), fun l3 l30 => ?_⟩
      generalize hX : upd G2 l3 _ = G3
      have x3 := same_is hX l30
      have y3 := upd_is hX
      refine ⟨t, c, l3, _, _, rfl, U2.same x3, by omega, y3, ⟨by show 1 ≤ 3; omega, by show 3 ≤ 1000; omega⟩, fun v3 G4 hv3 U4 f4 => ?_⟩
      obtain ⟨a, av, aok, agd⟩ : ∃ a : PyData, (∀ Hq : Hp, Fz K Hq v3 a) ∧ (SG.isNon a || bet a 1 10000) = true ∧ gdB 10000 a = true := by
        have one : ∀ {v : V}, v ∈ intsV ws → ∃ a : PyData, (∀ Hq : Hp, Fz K Hq v a) ∧ (SG.isNon a || bet a 1 10000) = true ∧ gdB 10000 a = true := by
          intro v hv
          obtain ⟨x, hx, rfl⟩ := List.mem_map.mp hv
          obtain ⟨h1, h2⟩ := wok x hx
          refine ⟨.int x, fun _ => .int x, ?_, gd_int (by omega)⟩
          show (false || (decide (1 ≤ x) && decide (x ≤ 10000))) = true
          rw [decide_eq_true h1, decide_eq_true h2]; rfl
        simp only [List.mem_cons, List.not_mem_nil, or_false] at hv3
        rcases hv3 with rfl | rfl | rfl
        · exact ⟨.none, fun _ => .non, rfl, rfl⟩
        · exact one hv1
        · exact one hv2
      refine ⟨(by show 0 ≤ sizeLine; decide), fun sp sp0 => ?_⟩
      generalize hY : upd G4 sp _ = G5
      have x5 := same_is hY sp0
      have y5 := upd_is hY
      refine ⟨(by show 2 ≤ sizeLine; decide), fun q o q0 _ => ?_⟩
      generalize hZ : upd G5 q _ = G6
      have x6 := same_is hZ q0
      have y6 := upd_is hZ
      refine ⟨q, _, rfl, .inl (.inr ⟨o, y6⟩), rfl, _, _, rfl, _, _, rfl, rfl, ?_⟩
      have U6 := (U4.same x5).same x6
      have hsp6 := x6 _ _ y5
      have sp_t : sp ≠ t := fun z => by obtain ⟨kvs, e⟩ := U4.is; rw [← z, sp0] at e; cases e
      have sp_c : sp ≠ c := U4.ne_newc sp0
      have hel6 : G6 el = some (.lst (strsV es)) := by
        have h1 := f1 _ _ helz (not_in_one (Tz'.ne_lst helz))
        have h2 := f2 _ _ h1 (not_in_one (U1.ne_lst h1))
        have h3 := x3 _ _ h2
        have h4 := f4 _ _ h3 (not_in_one ((U2.same x3).ne_lst h3))
        exact x6 _ _ (x5 _ _ h4)
      refine ⟨(by show 3 ≤ sizeLine; decide), fun lw lw0 => ?_⟩
      generalize hW : upd G6 lw _ = G7
      have x7 := same_is hW lw0
      have y7 := upd_is hW
      have U7 := U6.same x7
      have hsp7 := x7 _ _ hsp6
      have hel7 := x7 _ _ hel6
      have el_sp : el ≠ sp := by
        have h1 := f1 _ _ helz (not_in_one (Tz'.ne_lst helz))
        have h2 := f2 _ _ h1 (not_in_one (U1.ne_lst h1))
        have h3 := x3 _ _ h2
        have h4 := f4 _ _ h3 (not_in_one ((U2.same x3).ne_lst h3))
        exact ne_of_none h4 sp0
      have lw_sp : lw ≠ sp := (ne_of_none hsp6 lw0).symm
      have lw_t : lw ≠ t := fun z => by obtain ⟨kvs, e⟩ := U6.is; rw [← z, lw0] at e; cases e
      have two : ∀ {x : Addr}, x ≠ t → x ≠ sp → x ∉ [t, sp] := fun h1 h2 => by
        simp only [List.mem_cons, List.not_mem_nil, or_false, not_or]; exact ⟨h1, h2⟩
      refine ⟨lw, rfl, ⟨_, SqL.of y7⟩, ?_⟩
      refine for_list (K := K) (a := lw) (xs := strsV outs) (fun j σ Hx => ∃ (k9 k10 : Option V) (yz : List V) (ss : List PyData), σ = [some (.ref t), some (.int m), some (.ref wl), some (.ref st), some (.ref od), some (.int (0 + (i : Int))), some (.ref el), some v3, some (.ref sp), k9, k10, k11, none] ∧ Hx sp = some (.lst yz) ∧ FzAll K Hx yz ss ∧
        Pre m (outs.take j) ss ∧ (∀ s ∈ ss, gdB 10000 s = true ∧ SG.wt s ≤ 250 ∧ s.depth ≤ 1) ∧ TapeAt Hx t c (n + 14 + 20 * i + 3 * j) ∧ Fr [t, sp] G7 Hx) ?_ ?_ ?_ ?_
      · exact ⟨_, _, [], [], rfl, hsp7, .nil, ⟨rfl, List.Sublist.slnil⟩, fun s hs => by simp at hs, U7.mono (by omega), Fr.refl _ _⟩
      · rintro j σ Hx _ ⟨_, _, _, _, _, _, _, _, _, _, f7x⟩
        exact SqL.of (f7x _ _ y7 (two lw_t lw_sp))
      · rintro j vw σ Hx hj ⟨k9, k10, yz, ss, rfl, hyz, fyz, pre, fine, Vx, f7x⟩
        have hjl := (List.getElem?_eq_some_iff.mp hj).1
        have hj3 : j < 3 := hjl
        obtain ⟨wz, rfl, hwz, ewz⟩ : ∃ wz, vw = .str wz ∧ wz ∈ wordsL ∧ outs[j]? = some wz := by
          have e : (strsV outs)[j]? = (outs[j]?).map V.str := by unfold strsV; rw [List.getElem?_map]
          rw [e] at hj
          obtain ⟨wz, h1, h2⟩ := Option.map_eq_some_iff.mp hj
          refine ⟨wz, h2.symm, ?_, h1⟩
          have := List.mem_of_getElem? h1
          simp only [outs, List.mem_cons, List.not_mem_nil, or_false] at this
          rcases this with rfl | rfl | rfl <;> decide +kernel
        have helx := f7x _ _ hel7 (two (U7.ne_lst hel7) el_sp)
        refine ⟨_, rfl, _, rfl, _, rfl, _, rfl, t, c, m, _, rfl, Vx, ⟨by omega, by omega⟩, by omega, fun r J1 hr1 V1 g1 => ?_⟩
        have hyz1 := g1 _ _ hyz (not_in_one sp_t)
        have hel1 := g1 _ _ helx (not_in_one (Vx.ne_lst helx))
        refine ⟨(by show 1 ≤ sizeLine; decide), fun p1 p10 => ?_⟩
        generalize hJ2 : upd J1 p1 _ = J2
        have a2 := same_is hJ2 p10
        have b2 := upd_is hJ2
        refine ⟨p1, 4, _, rfl, rfl, b2, by decide, by decide, (by show 1 * 4 ≤ sizeLine; omega), fun p2 p20 => ?_⟩
        generalize hJ3 : upd J2 p2 _ = J3
        have a3 := same_is hJ3 p20
        have b3 := upd_is hJ3
        have lst_e : (strsV es).length = es.length := by unfold strsV; exact List.length_map _
        refine ⟨el, p2, _, _, rfl, rfl, a3 _ _ (a2 _ _ hel1), b3, ?_, fun p3 p30 => ?_⟩
        · rw [lst_e]
          show _ + 4 ≤ sizeLine
          omega
        generalize hJ4 : upd J3 p3 _ = J4
        have a4 := same_is hJ4 p30
        have b4 := upd_is hJ4
        have a24 := a2.trans (a3.trans a4)
        have hyz4 := a24 _ _ hyz1
        refine ⟨t, c, p3, _, _, rfl, V1.same a24, by omega, b4, ?_, fun vg J5 hvg V5 g5 => ?_⟩
        · rw [List.length_append, lst_e]
          show 1 ≤ _ + 4 ∧ _ + 4 ≤ 1000
          omega
        have hyz5 := g5 _ _ hyz4 (not_in_one sp_t)
        obtain ⟨g, gz, gok⟩ : ∃ g : PyData, (∀ Hq : Hp, Fz K Hq vg g) ∧ isG m g = true := by
          rcases List.mem_append.mp hvg with h | h
          · obtain ⟨z, hz, rfl⟩ := List.mem_map.mp h
            refine ⟨.str z, fun _ => .str z, ?_⟩
            show (inL endsL (.str z) || _) = true
            rw [inL_of (eok z hz)]; rfl
          · have h2 : vg = .int r := by
              have : vg ∈ [V.int r, V.int r, V.int r, V.int r] := h
              simpa using this
            subst h2
            refine ⟨.int r, fun _ => .int r, ?_⟩
            show (inL endsL (.int r) || (decide (0 ≤ r) && decide (r ≤ (m : Int) - 1))) = true
            rw [decide_eq_true hr1.1, decide_eq_true (show r ≤ (m : Int) - 1 by omega), Bool.or_eq_true]
            exact .inr rfl
        refine ⟨_, rfl, .inl ⟨rfl, _, SqL.of hyz5⟩, _, rfl, _, rfl, (by show 2 ≤ sizeLine; decide), new_kt (K := K) (.cons (.str wz) (.cons (gz _) .nil)) fun tp xs6 J6 s6 z6 f6 => ?_⟩
        refine ⟨(by show 1 ≤ sizeLine; decide), fun p4 p40 => ?_⟩
        generalize hJ7 : upd J6 p4 _ = J7
        have a7 := same_is hJ7 p40
        have b7 := upd_is hJ7
        have V7 := (V5.same s6).same a7
        refine ⟨_, rfl, t, c, 4, _, rfl, V7, ⟨by decide, by decide⟩, by omega, fun r2 J8 hr8 V8 g8 => ?_⟩
        have hyz8 := g8 _ _ ((s6.trans a7) _ _ hyz5) (not_in_one sp_t)
        have hp8 := g8 _ _ b7 (not_in_one (V7.ne_lst b7))
        have z8 : Tz J8 tp xs6 := (z6.same a7).fr V7 g8
        have f8' : FzAll K J8 xs6 [.str wz, g] := (f6.same a7).fr V7 g8
        have fyz8 : FzAll K J8 yz ss := ((((fyz.fr Vx g1).same a24).fr (V1.same a24) g5).same (s6.trans a7)).fr V7 g8
        have F8 : Fr [t, sp] G7 J8 := f7x.trans (((g1.trans (Fr.same a24 _)).trans (g5.trans ((Fr.same (s6.trans a7) _).trans g8))).mono (by simp))
        have nolss : noLAll ss = true := noLAll_mem fun s hs => isStep_noL (List.all_eq_true.mp pre.ok s hs)
        have lss : ss.length ≤ 3 := by
          have := pre.sub.length_le
          rw [List.length_map, List.length_take] at this
          exact Nat.le_trans this (Nat.min_le_right _ _)
        have lyz := fyz.len
        have etk : outs.take (j + 1) = outs.take j ++ [wz] := by rw [List.take_succ, ewz]; rfl
        refine ⟨_, rfl, rfl, .inr ⟨_, rfl, _, _, rfl, rfl, .inr ⟨by decide, by decide⟩, _, _, rfl, rfl, .inr ⟨_, rfl, ?_⟩⟩⟩
        refine rep_bit hp8 (by show 1 ≤ 1000; omega) (fun p5 p50 => ?_) fun _ p5 p50 => ?_
        · generalize hJ9 : upd J8 p5 _ = J9
          have a9 := same_is hJ9 p50
          have b9 := upd_is hJ9
          refine ⟨sp, p5, yz, [], rfl, rfl, a9 _ _ hyz8, b9, by show yz.length + 0 ≤ sizeLine; omega, ?_⟩
          rw [List.append_nil]
          refine ⟨_, _, yz, ss, rfl, upd_same, FzAll.keepT (fun a' xs' z => z.put_lst (a9 _ _ hyz8)) nolss (fyz8.same a9), by rw [etk]; exact pre.skip wz, fine, ((V8.same a9).put sp_t sp_c).mono (by omega), F8.trans ((Fr.same a9 _).trans (Fr.put (by simp)))⟩
        · generalize hJ9 : upd J8 p5 _ = J9
          have a9 := same_is hJ9 p50
          have b9 := upd_is hJ9
          refine ⟨sp, p5, yz, _, rfl, rfl, a9 _ _ hyz8, b9, by show yz.length + 1 ≤ sizeLine; omega, ?_⟩
          have stepok : isStep m (.tuple [.str wz, g]) = true := by
            show (inL wordsL (.str wz) && isG m g) = true
            rw [inL_of hwz, gok]; rfl
          have nol2 : noLAll (ss ++ [.tuple [.str wz, g]]) = true := noLAll_mem fun s hs => by
            rcases List.mem_append.mp hs with h | h
            · exact isStep_noL (List.all_eq_true.mp pre.ok s h)
            · rw [List.mem_singleton.mp h]; exact isStep_noL stepok
          refine ⟨_, _, _, ss ++ [.tuple [.str wz, g]], rfl, upd_same, FzAll.keepT (fun a' xs' z => z.put_lst (a9 _ _ hyz8)) nol2 ((fyz8.append (.cons (.tup z8 f8') .nil)).same a9), by rw [etk]; exact pre.take hwz gok, ?_, ((V8.same a9).put sp_t sp_c).mono (by omega), F8.trans ((Fr.same a9 _).trans (Fr.put (by simp)))⟩
          intro s hs
          rcases List.mem_append.mp hs with h | h
          · exact fine s h
          · rw [List.mem_singleton.mp h]
            exact step_fine hwz gok (by omega)
      · rintro σ Hx ⟨k9, k10, yz, ss, rfl, hyz, fyz, pre, fine, Vx, f7x⟩
        have lst_e : (strsV es).length = es.length := by unfold strsV; exact List.length_map _
        have lyz := fyz.len
        have e3 : outs.take (strsV outs).length = outs := rfl
        rw [e3] at pre
        have lss : ss.length ≤ 3 := by
          have := pre.sub.length_le
          rw [List.length_map] at this
          exact this
        have Vx' : TapeAt Hx t c (n + 23 + 20 * i) := Vx.mono (by show n + 14 + 20 * i + 3 * 3 ≤ _; omega)
        have helx := f7x _ _ hel7 (two (U7.ne_lst hel7) el_sp)
        refine ⟨_, rfl, _, rfl, _, rfl, _, _, rfl, rfl, _, rfl, _, _, rfl, rfl, _, rfl, _, rfl, t, c, m, _, rfl, Vx', ⟨by omega, by omega⟩, by omega, fun r J1 hr1 V1 g1 => ?_⟩
        have hyz1 := g1 _ _ hyz (not_in_one sp_t)
        have hel1 := g1 _ _ helx (not_in_one (Vx.ne_lst helx))
        refine ⟨_, _, rfl, rfl, ?_⟩
        refine ⟨(m : Int) - 1, 0 + (i : Int) + 1 + r, rfl, ?_⟩
        dsimp only
        generalize hmn : (if 0 + (i : Int) + 1 + r < (m : Int) - 1 then 0 + (i : Int) + 1 + r else (m : Int) - 1) = mn
        have mn1 : mn ≤ (m : Int) - 1 := by rw [← hmn]; split <;> omega
        have mn0 : 0 ≤ mn := by rw [← hmn]; split <;> omega
        have mn2 : (i : Int) < (m : Int) - 1 → (i : Int) < mn := by intro h; rw [← hmn]; split <;> omega
        refine ⟨(by show 1 ≤ sizeLine; decide), fun p1 p10 => ?_⟩
        generalize hJ2 : upd J1 p1 _ = J2
        have a2 := same_is hJ2 p10
        have b2 := upd_is hJ2
        refine ⟨p1, 3, _, rfl, rfl, b2, by decide, by decide, (by show 1 * 3 ≤ sizeLine; omega), fun p2 p20 => ?_⟩
        generalize hJ3 : upd J2 p2 _ = J3
        have a3 := same_is hJ3 p20
        have b3 := upd_is hJ3
        refine ⟨_, rfl, _, rfl, _, _, rfl, rfl, _, _, rfl, rfl, .inr ⟨_, rfl, ?_⟩⟩
        refine rep_any b3 (by show 3 ≤ 1000; omega) fun p3 zs p30 hzs => ?_
        generalize hJ4 : upd J3 p3 _ = J4
        have a4 := same_is hJ4 p30
        have b4 := upd_is hJ4
        have zs3 : zs.length ≤ 3 := by
          rcases hzs with rfl | ⟨_, rfl⟩
          · exact Nat.zero_le _
          · exact Nat.le_refl 3
        refine ⟨el, p3, _, _, rfl, rfl, a4 _ _ (a3 _ _ (a2 _ _ hel1)), b4, by omega, fun p4 p40 => ?_⟩
        generalize hJ5 : upd J4 p4 _ = J5
        have a5 := same_is hJ5 p40
        have b5 := upd_is hJ5
        have a25 := a2.trans (a3.trans (a4.trans a5))
        refine ⟨t, c, p4, _, _, rfl, V1.same a25, by omega, b5, by rw [List.length_append]; omega, fun vg J6 hvg V6 g6 => ?_⟩
        have hyz6 := g6 _ _ (a25 _ _ hyz1) (not_in_one sp_t)
        obtain ⟨g, gz, gok, gup⟩ : ∃ g : PyData, (∀ Hq : Hp, Fz K Hq vg g) ∧ isG m g = true ∧ ∀ q : Nat, g = .int q → i < q := by
          rcases List.mem_append.mp hvg with h | h
          · obtain ⟨z, hz, rfl⟩ := List.mem_map.mp h
            refine ⟨.str z, fun _ => .str z, ?_, fun q e => by cases e⟩
            show (inL endsL (.str z) || _) = true
            rw [inL_of (eok z hz)]; rfl
          · rcases hzs with rfl | ⟨kb, rfl⟩
            · cases h
            have h2 : vg = .int mn := by
              have : vg ∈ [V.int mn, V.int mn, V.int mn] := h
              simpa using this
            subst h2
            have lt := mn2 (by have := of_decide_eq_true kb; omega)
            refine ⟨.int mn, fun _ => .int mn, ?_, fun q e => by cases e; omega⟩
            show (inL endsL (.int mn) || (decide (0 ≤ mn) && decide (mn ≤ (m : Int) - 1))) = true
            rw [decide_eq_true mn0, decide_eq_true mn1, Bool.or_eq_true]
            exact .inr rfl
        refine ⟨_, rfl, .inl ⟨rfl, _, SqL.of hyz6⟩, _, rfl, _, rfl, _, _, rfl, .inl (SqL.of hyz6), _, _, rfl, rfl, t, c, _, _, rfl, V6, ⟨by omega, by omega⟩, by omega, fun r2 J7 hr7 V7 g7 => ?_⟩
        have hyz7 := g7 _ _ hyz6 (not_in_one sp_t)
        refine ⟨_, rfl, (by show 2 ≤ sizeLine; decide), new_kt (K := K) (.cons (.str "wait") (.cons (gz _) .nil)) fun tp xs8 J8 s8 z8 f8 => ?_⟩
        have hyz8 := s8 _ _ hyz7
        refine ⟨sp, yz, r2, .ref tp, rfl, rfl, hyz8, by omega, hr7.1, by omega, ?_⟩
        have fyz8 : FzAll K J8 yz ss := ((((fyz.fr Vx g1).same a25).fr (V1.same a25) g6).fr V6 g7).same s8
        generalize hJ9 : upd J8 sp _ = J9
        have b9 : J9 sp = some (.lst (yz.take r2.toNat ++ [.ref tp] ++ yz.drop r2.toNat)) := by rw [← hJ9]; exact upd_same
        have keep9 : ∀ {p : Addr} {o : HO}, p ≠ sp → J8 p = some o → J9 p = some o := fun h e => by rw [← hJ9, upd_ne h]; exact e
        have t9 : ∀ a' xs', Tz J8 a' xs' → Tz J9 a' xs' := fun a' xs' z => by rw [← hJ9]; exact z.put_lst hyz8
        have V9 : TapeAt J9 t c (n + 26 + 20 * i) := by
          rw [← hJ9]
          exact ((V7.same s8).put sp_t sp_c).mono (by omega)
        have drawn := drawn_state (r := r2.toNat) pre aok gok gup
        have wok : isStep m (.tuple [.str "wait", g]) = true := by
          show (inL wordsL (.str "wait") && isG m g) = true
          rw [gok, Bool.and_true]
          exact inL_of (by decide)
        have okfull : ∀ s ∈ ss.take r2.toNat ++ [PyData.tuple [.str "wait", g]] ++ ss.drop r2.toNat, isStep m s = true ∧ (gdB 10000 s = true ∧ SG.wt s ≤ 250 ∧ s.depth ≤ 1) := by
          intro s hs
          rcases List.mem_append.mp hs with h | h
          · rcases List.mem_append.mp h with h | h
            · exact ⟨List.all_eq_true.mp pre.ok s (List.mem_of_mem_take h), fine s (List.mem_of_mem_take h)⟩
            · rw [List.mem_singleton.mp h]
              exact ⟨wok, step_fine (by decide) gok m8⟩
          · exact ⟨List.all_eq_true.mp pre.ok s (List.mem_of_mem_drop h), fine s (List.mem_of_mem_drop h)⟩
        have lfull : (ss.take r2.toNat ++ [PyData.tuple [.str "wait", g]] ++ ss.drop r2.toNat).length ≤ 4 := by
          rw [List.length_append, List.length_append, List.length_take, List.length_drop]
          show _ + 1 + _ ≤ 4
          omega
        have ffull8 : FzAll K J8 (yz.take r2.toNat ++ [.ref tp] ++ yz.drop r2.toNat) (ss.take r2.toNat ++ [PyData.tuple [.str "wait", g]] ++ ss.drop r2.toNat) := ((fyz8.take _).append (.cons (.tup z8 f8) .nil)).append (fyz8.drop _)
        have ffull : FzAll K J9 (yz.take r2.toNat ++ [.ref tp] ++ yz.drop r2.toNat) (ss.take r2.toNat ++ [PyData.tuple [.str "wait", g]] ++ ss.drop r2.toNat) := ffull8.keepT t9 (noLAll_mem fun s hs => isStep_noL (okfull s hs).1)
        generalize (ss.take r2.toNat ++ [PyData.tuple [.str "wait", g]] ++ ss.drop r2.toNat) = full at drawn okfull lfull ffull
        generalize (yz.take r2.toNat ++ [.ref tp] ++ yz.drop r2.toNat) = fullv at b9 ffull
        have nolsd : noLAll sd = true := noLAll_mem fun d hd => by
          obtain ⟨j, hj, e⟩ := List.mem_iff_getElem.mp hd
          have q := (good j (by omega)).ok
          rw [List.getD_eq_getElem?_getD, List.getElem?_eq_getElem hj, e] at q
          exact isState_noL q
        have st1 := f1 _ _ hys (not_in_one st_t)
        have st2 := f2 _ _ st1 (not_in_one st_t)
        have st4 := f4 _ _ (x3 _ _ st2) (not_in_one st_t)
        have st_sp : st ≠ sp := ne_of_none st4 sp0
        have stx := f7x _ _ (x7 _ _ (x6 _ _ (x5 _ _ st4))) (two st_t st_sp)
        have st8 := s8 _ _ (g7 _ _ (g6 _ _ (a25 _ _ (g1 _ _ stx (not_in_one st_t))) (not_in_one st_t)) (not_in_one st_t))
        have hst9 := keep9 st_sp st8
        have fys7 : FzAll K G7 ys sd := ((((((fys.fr Tz' f1).fr U1 f2).same x3).fr (U2.same x3) f4).same x5).same x6).same x7
        have fysx : FzAll K Hx ys sd := fys7.keepT (fun a' xs' z => by
          have ne1 := U7.ne_tz z
          obtain ⟨o', e, d'⟩ := z
          exact ⟨o', f7x _ _ e (two ne1 (fun q' => by rw [q', hsp7] at e; cases e)), d'⟩) nolsd
        have fys9 : FzAll K J9 ys sd := FzAll.keepT t9 nolsd (((((fysx.fr Vx g1).same a25).fr (V1.same a25) g6).fr V6 g7).same s8)
        refine ⟨_, rfl, .inl ⟨rfl, _, SqL.of hst9⟩, _, rfl, _, rfl, sp, rfl, ⟨_, SqL.of b9⟩, ?_⟩
        intro d2 d20
        have lfv := ffull.len
        refine lc_list (K := K) (a := sp) (xs := fullv) (fun j Hw => ∃ zs : List V, Hw d2 = some (.lst zs) ∧ FzAll K Hw zs ((full.take j).filter fun s => !SG.isNon a || !(wordOf s == "wait")) ∧ zs.length ≤ j ∧ Same J9 Hw) ⟨[], upd_same, .nil, Nat.le_refl _, same_new d20⟩ (fun j Hw _ ⟨_, _, _, _, sw⟩ => SqL.of (sw _ _ b9)) ?_ ?_
        · rintro j y Hw hj ⟨zs', w1, w2, w3, sw⟩
          have hjl := (List.getElem?_eq_some_iff.mp hj).1
          have hjs : j < full.length := by omega
          have e2 : full[j]? = some full[j] := List.getElem?_eq_getElem hjs
          have okj := (okfull full[j] (List.getElem_mem hjs)).1
          obtain ⟨wz, g', eg, hwz, hg⟩ := isStep_parts okj
          obtain ⟨v', ev, hv⟩ := ffull.get e2
          rw [hj] at ev
          obtain rfl := Option.some.inj ev
          have et : full.take (j + 1) = full.take j ++ [full[j]] := by rw [List.take_succ, e2]; rfl
          have hvw := hv.same sw
          have take_ : (!SG.isNon a || !(wordOf full[j] == "wait")) = true → ∃ acc, Hw d2 = some (.lst acc) ∧ acc.length < sizeLine ∧ ∃ zs'' : List V, (upd Hw d2 (.lst (acc ++ [y]))) d2 = some (.lst zs'') ∧ FzAll K (upd Hw d2 (.lst (acc ++ [y]))) zs'' ((full.take (j + 1)).filter fun s => !SG.isNon a || !(wordOf s == "wait")) ∧ zs''.length ≤ j + 1 ∧ Same J9 (upd Hw d2 (.lst (acc ++ [y]))) := by
            intro hc
            refine ⟨zs', w1, by omega, zs' ++ [y], upd_same, ?_, by rw [List.length_append]; exact Nat.add_le_add_right w3 1, fun p o e => by rw [upd_ne (ne_of_none e d20)]; exact sw _ _ e⟩
            refine FzAll.keepT (fun a' xs' z => z.put_lst w1) (noLAll_mem fun s hs => isStep_noL (okfull s (List.mem_of_mem_take (List.mem_filter.mp hs).1)).1) ?_
            rw [et, List.filter_append]
            have e1 : [full[j]].filter (fun s => !SG.isNon a || !(wordOf s == "wait")) = [full[j]] := by
              rw [List.filter_cons, if_pos hc]; rfl
            rw [e1]
            exact w2.append (.cons hvw .nil)
          refine ⟨rfl, ?_⟩
          refine ⟨_, rfl, _, rfl, ite2 (fun c1 => ?_) fun c1 => ?_⟩
          · have nn : SG.isNon a = false := by rw [← Dp.isNon (av Hw).dp]; simpa using c1
            exact ⟨_, rfl, take_ (by rw [nn]; rfl)⟩
          · have nn : SG.isNon a = true := by rw [← Dp.isNon (av Hw).dp]; simpa using c1
            rw [eg] at hvw
            obtain ⟨t4, zs4, rfl, z4, al4⟩ := hvw.tupOf
            obtain ⟨y1, y2, rfl, h1, h2⟩ := al4.two
            obtain rfl : y1 = .str wz := by cases h1; rfl
            refine ⟨_, rfl, t4, _, 0, .str wz, rfl, rfl, z4.sq, atI_nat (j := 0) rfl, rfl, _, rfl, ite2 (fun c2 => ?_) fun c2 => ?_⟩
            · have ne : (wordOf full[j] == "wait") = false := by
                rw [eg]
                show (wz == "wait") = false
                rw [beq_eq_false_iff_ne]
                intro z
                subst z
                cases c2
              exact ⟨_, rfl, take_ (by rw [ne]; simp)⟩
            · have e : wz = "wait" := by
                have : decide (V.str wz = V.str "wait") = true := by simpa using c2
                have := of_decide_eq_true this
                cases this; rfl
              refine ⟨zs', w1, ?_, by omega, sw⟩
              rw [et, List.filter_append]
              have e1 : [full[j]].filter (fun s => !SG.isNon a || !(wordOf s == "wait")) = [] := by
                rw [List.filter_cons, if_neg]
                · rfl
                · rw [eg, nn]
                  show ¬ (false || !(wz == "wait")) = true
                  rw [e]; decide
              rw [e1, List.append_nil]
              exact w2
        · rintro Hw ⟨zs', w1, w2, w3, sw⟩
          rw [show full.take fullv.length = full by rw [lfv]; exact List.take_length] at w2
          refine .inl ⟨d2, zs', rfl, SqL.of w1, new_kt (K := K) w2 fun tq xsq Hu su zu fu => ?_⟩
          refine ⟨(by show 2 ≤ sizeLine; decide), new_kt (K := K) (.cons (av _) (.cons (.tup zu fu) .nil)) fun tr xsr Hq sq zq fq => ?_⟩
          have s9q := sw.trans (su.trans sq)
          have hstq := s9q _ _ hst9
          have lys := fys.len
          have hd_ : SG.wt a ≤ 70 ∧ a.depth = 0 := by
            rw [Bool.or_eq_true] at aok
            rcases aok with h | h
            · cases a <;> first | exact ⟨Nat.le_refl _, rfl⟩ | cases h
            · cases a <;> first | exact ⟨Nat.le_refl _, rfl⟩ | cases h
          generalize hfl : full.filter (fun s => !SG.isNon a || !(wordOf s == "wait")) = fl at drawn w2 fu fq
          have memfl : ∀ s ∈ fl, s ∈ full := fun s hs => by rw [← hfl] at hs; exact (List.mem_filter.mp hs).1
          have lfl : fl.length ≤ 4 := by rw [← hfl]; exact Nat.le_trans (List.length_filter_le _ _) lfull
          have wfl := wtAll_le (M := 250) (ds := fl) fun s hs => (okfull s (memfl s hs)).2.2.1
          have newGood : Good m i (.tuple [a, .tuple fl]) := by
            refine ⟨drawn.1, drawn.2, ?_, ?_, ?_⟩
            · show (gdB 10000 a && (gdBAll 10000 fl && true)) = true
              rw [agd, gdBAll_mem.mpr fun s hs => (okfull s (memfl s hs)).2.1]; rfl
            · show 10 + (SG.wt a + 2 + ((10 + wtAll fl) + 2 + 0)) ≤ 1200
              have : (250 + 2) * fl.length ≤ 252 * 4 := Nat.mul_le_mul_left _ lfl
              omega
            · show max a.depth (max (PyData.depthAll fl + 1) 0) + 1 ≤ 3
              have := depthAll_le (m := 1) (ds := fl) fun s hs => (okfull s (memfl s hs)).2.2.2
              rw [hd_.2]
              omega
          refine ⟨st, ys, .ref tr, rfl, rfl, hstq, by omega, ?_⟩
          have nolsd2 : noLAll (sd ++ [.tuple [a, .tuple fl]]) = true := noLAll_mem fun d hd => by
            rcases List.mem_append.mp hd with h | h
            · obtain ⟨j, hj, e⟩ := List.mem_iff_getElem.mp h
              have q := (good j (by omega)).ok
              rw [List.getD_eq_getElem?_getD, List.getElem?_eq_getElem hj, e] at q
              exact isState_noL q
            · rw [List.mem_singleton.mp h]; exact isState_noL newGood.ok
          refine ⟨_, _, _, _, _, _, ys ++ [.ref tr], sd ++ [.tuple [a, .tuple fl]], rfl, upd_same, FzAll.keepT (fun a' xs' z => z.put_lst hstq) nolsd2 ((fys9.same s9q).append (.cons (.tup zq fq) .nil)), by rw [List.length_append, lsd]; rfl, ?_, ((V9.same s9q).put st_t st_c).mono (by omega), ?_⟩
          · intro j hj
            by_cases e : j < sd.length
            · rw [List.getD_eq_getElem?_getD, List.getElem?_append_left e, ← List.getD_eq_getElem?_getD]
              exact good j (by omega)
            · have e2 : j = sd.length := by omega
              rw [List.getD_eq_getElem?_getD, e2, List.getElem?_append_right (Nat.le_refl _), Nat.sub_self]
              rw [lsd]
              exact newGood
          · -- nothing else changes
            intro b' o' e' nb
            simp only [List.mem_cons, List.not_mem_nil, or_false, not_or] at nb
            have nt : b' ∉ [t] := not_in_one nb.1
            have c0 := F5z b' o' e' (by simp only [List.mem_cons, List.not_mem_nil, or_false, not_or]; exact nb)
            have c4 := f4 _ _ (x3 _ _ (f2 _ _ (f1 _ _ c0 nt) nt)) nt
            have nsp : b' ≠ sp := ne_of_none c4 sp0
            have cx := f7x _ _ (x7 _ _ (x6 _ _ (x5 _ _ c4))) (two nb.1 nsp)
            have c8 := s8 _ _ (g7 _ _ (g6 _ _ (a25 _ _ (g1 _ _ cx nt)) nt) nt)
            rw [upd_ne nb.2]
            exact s9q _ _ (keep9 nsp c8)
    · rintro σ Hz ⟨k5, k7, k8, k9, k10, k11, ys, sd, rfl, hys, fys, lsd, good, Tz', F5z⟩
      have hoz := F5z _ _ ho5 (by simp only [List.mem_cons, List.not_mem_nil, or_false, not_or]; exact ⟨od_t, fun z => st_od z.symm⟩)
      have F0z : Fr [t] H Hz := fun b o e nb => F5z _ _ (F05 _ _ e nb) (by
        simp only [List.mem_cons, List.not_mem_nil, or_false, not_or] at nb ⊢
        exact ⟨nb, fun z => by rw [z, st_H] at e; cases e⟩)
      have gd_ : ∀ i, i < m → Good m i (sd.getD i .none) := good
      have mem_ : ∀ d ∈ sd, ∃ i, Good m i d := fun d hd => by
        obtain ⟨j, hj, e⟩ := List.mem_iff_getElem.mp hd
        have q := good j (by omega)
        rw [List.getD_eq_getElem?_getD, List.getElem?_eq_getElem hj, e] at q
        exact ⟨j, q⟩
      refine ⟨_, rfl, _, rfl, st, od, sd, ys, ord, m, rfl, hys, fys, lsd, hoz, oo, ⟨m1, m8⟩, fun d hd => ?_, fun H' v s' fz => ?_⟩
      · obtain ⟨j, q⟩ := mem_ d hd
        exact ⟨q.ok, Nat.le_trans q.wt (by decide)⟩
      have mv_ : ∀ d ∈ moved sd ord, gdB 10000 d = true ∧ SG.wt d ≤ 1200 ∧ d.depth ≤ 3 := by
        intro d hd
        obtain ⟨j, hj, rfl⟩ := List.mem_map.mp hd
        have q := good j ((oo.mem j).mp hj)
        obtain ⟨i1, i2, i3⟩ := mv_state oo m8 q.ok q.gd
        exact ⟨i3, by rw [i1]; exact q.wt, by rw [i2]; exact q.dp⟩
      have lm := moved_len sd ord
      rw [oo.len] at lm
      refine k v (moved sd ord) H' ((Tz'.same s').mono (by omega)) (F0z.trans (Fr.same s' _)) fz (moved_mach oo m1 m8 (fun j hj => (good j hj).ok) fun j q hj e => (good j hj).up q e) lm ?_ ?_ ?_
      · exact gdBAll_mem.mpr fun d hd => (mv_ d hd).1
      · have := wtAll_le (M := 1200) (ds := moved sd ord) fun d hd => (mv_ d hd).2.1
        show 10 + wtAll (moved sd ord) ≤ 10000
        rw [lm] at this
        have : (1200 + 2) * m ≤ 1202 * 8 := Nat.mul_le_mul_left _ m8
        omega
      · rw [depth_tup]
        have := depthAll_le (m := 3) (ds := moved sd ord) fun d hd => (mv_ d hd).2.2
        omega
end
end SG
namespace SG
open PySem PySem.Spec PyProof.Rows L2
def spLaw (K : PySem.W.Frag) : Sp := fun vs H Q _ => ∃ (a : Addr) (ns : List Int), vs = [.ref a] ∧ SqL K H a (ns.map V.int) ∧ ns.length ≤ 63 ∧ ∀ H', Q (.bl true) H'
/-- data that _law_agrees takes -/
def Fit (d : PyData) : Prop := gd d = true ∧ SG.wt d ≤ 48000 ∧ d.depth ≤ 200
structure Sml (d : PyData) : Prop where
  nl : noL d = true
  gd : gdB 10000 d = true
  wt : SG.wt d ≤ 600
  dp : d.depth ≤ 3
theorem fit_of {d : PyData} (g : gdB 10000 d = true) (w : SG.wt d ≤ 48000) (p : d.depth ≤ 200) : Fit d := ⟨gdB_gd (by decide) g, w, p⟩
theorem fit_tup {ds : List PyData} (h : ∀ d ∈ ds, Sml d) (l : ds.length ≤ 40) : Fit (.tuple ds) := by
  refine fit_of (gdBAll_mem.mpr fun d hd => (h d hd).gd) ?_ ?_
  · have := wtAll_le (M := 600) (ds := ds) fun d hd => (h d hd).wt
    show 10 + wtAll ds ≤ 48000
    have : (600 + 2) * ds.length ≤ 602 * 40 := Nat.mul_le_mul_left _ l
    omega
  · rw [depth_tup]
    have := depthAll_le (m := 3) (ds := ds) fun d hd => (h d hd).dp
    omega
theorem sml_ring {x y : Int} (h1 : x.natAbs ≤ 10000) (h2 : y.natAbs ≤ 10000) : Sml (.tuple [.int x, .tuple [.tuple [.str "wait", .int y]]]) := by
  refine ⟨rfl, ?_, ?_, ?_⟩
  · show (gdB 10000 (.int x) && (((("wait" : Str).cps.toList.all fun c => decide (c < 1000)) && (gdB 10000 (.int y) && true)) && true && true)) = true
    rw [gd_int h1, gd_int h2, show (("wait" : Str).cps.toList.all fun c => decide (c < 1000)) = true by decide +kernel]; rfl
  · show 10 + (70 + 2 + ((10 + ((10 + ((70 + 10 * 4) + 2 + (70 + 2 + 0))) + 2 + 0)) + 2 + 0)) ≤ 600
    omega
  · show max 0 (max (max (max 0 (max 0 0) + 1) 0 + 1) 0) + 1 ≤ 3
    decide
theorem sml_open : Sml (.tuple [.int 9, .tuple [.tuple [.str "wait", .str "claim"], .tuple [.str "up", .int 0]]]) := ⟨by decide +kernel, by decide +kernel, by decide +kernel, by decide +kernel⟩
theorem sml_bare : Sml (.tuple [.none, .tuple []]) := ⟨by decide +kernel, by decide +kernel, by decide +kernel, by decide +kernel⟩
def words4 : List Str := ["out", "up", "down", "wait"]
section
variable {P : Program} {w : World} {K : PySem.W.Frag} {mg : Str → Option Value} {base : Heap}
theorem ok_law {f : Addr} {fd : FuncData} (F : Fun K "law" "law" slaw f fd) (T : Txt K mg) (c_law_tape : Cl P w K mg base 1 "_law_tape" (spTape K)) (c_law_draw : Cl P w K mg base 1 "_law_draw" spDraw) (c_law_machine : Cl P w K mg base 3 "_law_machine" (spMachine K))
    (c_law_agrees : ClG P w K mg base 5 "_law_agrees" (spAgrees K)) (c_law_is_machine : Cl P w K mg base 3 "_law_is_machine" (spMachF K)) (c_law_lead : Cl P w K mg base 1 "_law_lead" (spLead K)) (cstepped : Cl P w K mg base 1 "stepped" (spStepped K))
    (c_law_bent : Cl P w K mg base 9 "_law_bent" (spBent K 6)) : FnG P w K mg base 10 f fd ["_law_script"] (spLaw K) := by
  refine fun_okG F sclaw (fun vs H Q E h => ?_) (fun cdv A outer s H vs Q E hr hg h => ?_)
  · obtain ⟨a, ns, rfl, _⟩ := h
    rfl
  obtain ⟨a, ns, rfl, hS, h63, k⟩ := h
  have hu := hu_of hr
  have hgd := guards_in (q := "law") (sc := defScope slaw) (n := s.heap.objs.size) (f := f) (c := cdv) hg
  have big : 100000 ≤ sizeLine := by decide
  refine ⟨_, -- _law_tape_here = _law_tape(_law_script)
    (pss_cons (ps_set (i := 1) sclaw.nd rfl (Or.inl rfl) (pe_cl c_law_tape (hr.mono (by first | decide | omega)) rfl (pa_cons (pv 0) pa_nil)))
    (pss_cons (ps_for PassesOwn.never rfl (pi_range1 rfl T.m_range (pa_cons pe_int pa_nil)) (pg_name (i := 2) sclaw.nd rfl (Or.inl rfl))
      (pss_cons (ps_set (i := 3) sclaw.nd rfl (Or.inl rfl) (pe_cl c_law_machine (hr.mono (by first | decide | omega)) rfl (pa_cons (pv 1) (pa_cons (pe_op op_add pe_int (pe_cl c_law_draw (hr.mono (by first | decide | omega)) rfl (pa_cons (pv 1) (pa_cons pe_int pa_nil)))) pa_nil))))
      (pss_cons (ps_if (PW.pt (pw_or (pt_not (pt_val (pe_clG c_law_agrees (hr.mono (by first | decide | omega)) hgd rfl (pa_cons (pv 3) pa_nil)))) (pw_or1 (pt_not (pt_val (pe_cl c_law_is_machine (hr.mono (by first | decide | omega)) rfl (pa_cons (pv 3) pa_nil)))))))
        (pss_one (ps_ret pe_bl))
        pss_nil)
      (pss_cons (ps_for PassesOwn.never rfl (pi_range1 rfl T.m_range (pa_cons (pe_callB call_len_seq (by rfl) T.m_len PySem.boot_len (pa_cons (pv 3) pa_nil)) pa_nil)) (pg_name (i := 4) sclaw.nd rfl (Or.inl rfl))
        (pss_one (ps_for PassesOwn.never rfl (pi_tup (pe_tupF (pa_cons pe_str (pa_cons pe_str (pa_cons pe_str (pa_cons pe_str pa_nil)))))) (pg_name (i := 5) sclaw.nd rfl (Or.inl rfl))
          (pss_cons (ps_set (i := 6) sclaw.nd rfl (Or.inl rfl) (pe_cl c_law_lead (hr.mono (by first | decide | omega)) rfl (pa_cons (pv 3) (pa_cons (pv 4) (pa_cons (pv 5) pa_nil)))))
          (pss_one (ps_if (pt_cmpR op_ne (pe_cl cstepped (hr.mono (by first | decide | omega)) rfl (pa_cons (pv 3) (pa_cons (pv 4) (pa_cons (pv 5) pa_nil)))) (pe_ifExp (PW.pt (pw_and (pt_cmp (pc_isN (pv 6))) (pw_and1 (pt_cmpR op_in_seq (pv 5) (pe_tupF (pa_cons pe_str (pa_cons pe_str pa_nil))) (by with_unfolding_all rfl))))) pe_str (pv 6)) (nomark _))
            (pss_one (ps_ret pe_bl))
            pss_nil))))))
      (pss_cons (ps_for PassesOwn.never rfl (pi_range1 rfl T.m_range (pa_cons pe_int pa_nil)) (pg_name (i := 7) sclaw.nd rfl (Or.inl rfl))
        (pss_cons (ps_set (i := 8) sclaw.nd rfl (Or.inl rfl) (pe_cl c_law_bent (hr.mono (by first | decide | omega)) rfl (pa_cons (pv 1) (pa_cons (pv 3) pa_nil))))
        (pss_one (ps_if (PW.pt (pw_or (pt_not (pt_val (pe_clG c_law_agrees (hr.mono (by first | decide | omega)) hgd rfl (pa_cons (pv 8) pa_nil)))) (pw_or1 (pt_not (pt_val (pe_clG c_law_agrees (hr.mono (by first | decide | omega)) hgd rfl (pa_cons (pe_cl c_law_bent (hr.mono (by first | decide | omega)) rfl (pa_cons (pv 1) (pa_cons (pv 8) pa_nil))) pa_nil)))))))
          (pss_one (ps_ret pe_bl))
          pss_nil))))
      (pss_cons (ps_set (i := 9) sclaw.nd rfl (Or.inr rfl) (pe_op op_add pe_int (pe_cl c_law_draw (hr.mono (by first | decide | omega)) rfl (pa_cons (pv 1) (pa_cons pe_int pa_nil)))))
      (pss_cons (ps_set (i := 10) sclaw.nd rfl (Or.inl rfl) (pe_tupleOfF rfl T.m_tuple (pe_lc (own := [("_law_k", 13)]) rfl sclaw.nd (pi_range1 rfl T.m_range (pa_cons (pv 9) pa_nil)) (blkOk_by (N := Nlaw) (sc := defScope slaw) (by decide +kernel)) (fun _ _ _ _ _ => (pg_name (i := 13) sclaw.nd rfl (Or.inl rfl))) (fun _ _ _ _ _ => pts_nil) (fun _ _ _ _ _ => (pe_tupF (pa_cons (pe_op op_add pe_int (pv 13)) (pa_cons (pe_tupF (pa_cons (pe_tupF (pa_cons pe_str (pa_cons (pe_op op_mod (pe_op op_add (pv 13) pe_int) (pv 9)) pa_nil))) pa_nil)) pa_nil)))))))
      (pss_cons (ps_set (i := 11) sclaw.nd rfl (Or.inl rfl) (pe_op op_catF (pe_slice sl_tupF (pv 10) po_none (po_some (pe_un un_neg pe_int))) (pe_tupF (pa_cons (pe_tupF (pa_cons pe_int (pa_cons (pe_tupF (pa_cons (pe_tupF (pa_cons pe_str (pa_cons pe_str pa_nil))) (pa_cons (pe_tupF (pa_cons pe_str (pa_cons pe_int pa_nil))) pa_nil))) pa_nil))) pa_nil))))
      (pss_one (ps_for PassesOwn.never rfl (pi_list (pe_lst (pa_cons (pv 10) (pa_cons (pv 11) (pa_cons (pe_op op_catF (pe_slice sl_tupF (pv 10) po_none (po_some (pe_un un_neg pe_int))) (pe_tupF (pa_cons (pe_tupF (pa_cons pe_non (pa_cons (pe_tupF pa_nil) pa_nil))) pa_nil))) (pa_cons (pe_tupF pa_nil) (pa_cons (pe_lst pa_nil) (pa_cons pe_non (pa_cons (pe_tupF (pa_cons (pe_tupF pa_nil) pa_nil)) (pa_cons pe_str (pa_cons pe_int (pa_cons pe_bl (pa_cons (pe_op op_catF (pv 10) (pv 10)) (pa_cons (pe_callTy call_list_of rfl T.m_list (by decide +kernel) (pa_cons (pv 3) pa_nil)) pa_nil)))))))))))))) (pg_name (i := 12) sclaw.nd rfl (Or.inl rfl))
        (pss_one (ps_if (pt_not (pt_val (pe_clG c_law_agrees (hr.mono (by first | decide | omega)) hgd rfl (pa_cons (pv 12) pa_nil))))
          (pss_one (ps_ret pe_bl))
          pss_nil))))))))))))
    (pss_one (ps_ret pe_bl)))), ?_⟩
  refine ⟨_, rfl, a, ns, rfl, hS, h63, fun t c H1 T1 s1 => ?_⟩
  refine ⟨_, rfl, by decide, by decide, ?_⟩
  rw [show ((3 : Int)).toNat = 3 from rfl]
  refine for_range (lo := 0) (n := 3) (fun j σ Hz => ∃ k2 k3 k4 k5 k6 k7 k8 k9 k10 k11 k12 : Option V, σ = [some (.ref a), some (.ref t), k2, k3, k4, k5, k6, k7, k8, k9, k10, k11, k12, none] ∧ TapeAt Hz t c (3000 * j)) ⟨_, _, _, _, _, _, _, _, _, _, _, rfl, T1⟩ ?_ ?_
  · rintro j σ Hz hj ⟨k2, k3, k4, k5, k6, k7, k8, k9, k10, k11, k12, rfl, Tz'⟩
    refine ⟨_, rfl, _, rfl, t, c, 8, _, rfl, Tz', ⟨by decide, by decide⟩, by omega, fun r H2 hr2 T2 F2 => ?_⟩
    obtain ⟨q, rfl⟩ : ∃ q : Nat, r = q := ⟨r.toNat, by omega⟩
    refine ⟨_, _, rfl, rfl, ?_⟩
    refine ⟨t, c, 1 + q, _, by show [V.ref t, V.int (1 + (q : Int))] = _; rw [show (1 : Int) + (q : Int) = ((1 + q : Nat) : Int) by omega], T2, ⟨by omega, by omega⟩, by omega, fun v sts H3 T3 F3 fz hm ls g wt_ dp => ?_⟩
    have gdm : gd (.tuple sts) = true := gdB_gd (by decide) g
    refine ⟨_, rfl, v, .tuple sts, rfl, fz, gdm, by omega, by omega, fun H4 s4 => ?_⟩
    refine ⟨_, rfl, ite2 (fun z => by cases z) fun _ => ?_⟩
    have fz4 := fz.same s4
    refine ⟨_, rfl, v, .tuple sts, rfl, fz4, by omega, fun H5 s5 => ?_⟩
    rw [hm]
    refine ⟨_, rfl, ite2 (fun z => by cases z) fun _ => ?_⟩
    have T5 := (T3.same s4).same s5
    have fz5 := fz4.same s5
    obtain ⟨ma, mxs, rfl, zm, fm⟩ := fz5.tupOf
    have lm := fm.len
    have okm : sts.all (isState sts.length) = true := by
      unfold isMach at hm
      simp only [Bool.and_eq_true] at hm
      exact hm.2.1
    refine ⟨_, rfl, _, _, rfl, .inr zm.sq, _, rfl, by omega, by omega, ?_⟩
    rw [show (((mxs.length : Nat) : Int)).toNat = sts.length by omega]
    refine for_range (lo := 0) (n := sts.length) (fun i σ Hx => ∃ k4 k5 k6 : Option V, σ = [some (.ref a), some (.ref t), some (.int (0 + (j : Int))), some (.ref ma), k4, k5, k6, k7, k8, k9, k10, k11, k12, none] ∧ Same H5 Hx) ⟨_, _, _, rfl, Same.refl _⟩ ?_ ?_
    · rintro i σ Hx hi ⟨k4, k5, k6, rfl, sx⟩
      refine ⟨(by show 4 ≤ sizeLine; decide), fun p o p0 _ => ?_⟩
      generalize hH : upd Hx p (.frz o (.tup [.str "out", .str "up", .str "down", .str "wait"])) = H6
      have s6 : Same Hx H6 := by rw [← hH]; exact same_new p0
      have z6 : SqT K H6 p (words4.map V.str) := .inl (.inr ⟨o, by rw [← hH]; exact upd_same⟩)
      refine ⟨p, rfl, ⟨_, z6⟩, for_tup (K := K) (a := p) (xs := words4.map V.str) (fun y σ Hy => ∃ k5 k6 : Option V, σ = [some (.ref a), some (.ref t), some (.int (0 + (j : Int))), some (.ref ma), some (.int (0 + (i : Int))), k5, k6, k7, k8, k9, k10, k11, k12, none] ∧ Same H6 Hy) ⟨_, _, rfl, Same.refl _⟩ (fun y σ Hy _ ⟨_, _, _, sy⟩ => same_sqT sy z6) ?_ ?_⟩
      · rintro y v σ Hy hy ⟨k5, k6, rfl, sy⟩
        rw [List.getElem?_map] at hy
        obtain ⟨wz, ew, e⟩ := Option.map_eq_some_iff.mp hy
        subst e
        have s5y := sx.trans (s6.trans sy)
        refine ⟨_, rfl, _, rfl, _, rfl, .ref ma, sts, sts.length, i, wz, by rw [Int.zero_add]; rfl, fz5.same s5y, okm, hi, fun Hw v sw hv => ?_⟩
        refine ⟨_, rfl, _, rfl, _, rfl, .ref ma, sts, i, wz, by rw [Int.zero_add]; rfl, (fz5.same (s5y.trans sw)).dp, okm, hi, fun Hu u su hu2 => ?_⟩
        have fin : ∀ {Hv : Hp}, Same Hu Hv → ∀ {k6' : Option V}, ∃ k5 k6 : Option V, [some (.ref a), some (.ref t), some (.int (0 + (j : Int))), some (.ref ma), some (.int (0 + (i : Int))), some (.str wz), k6', k7, k8, k9, k10, k11, k12, none] = [some (.ref a), some (.ref t), some (.int (0 + (j : Int))), some (.ref ma), some (.int (0 + (i : Int))), k5, k6, k7, k8, k9, k10, k11, k12, none] ∧ Same H6 Hv := fun sv k6' => ⟨_, _, rfl, sy.trans (sw.trans (su.trans sv))⟩
        cases ld : leadD (stepsOf (sts.getD i .none)) wz with
        | none =>
          have e1 : leadR sts i wz = .none := by unfold leadR; rw [ld]; rfl
          have e2 : stepD sts i wz = if wz = "out" ∨ wz = "up" then .str "give" else .none := by unfold stepD; rw [ld]
          rw [e1] at hv
          rw [e2] at hu2
          obtain rfl : v = .non := by cases hv; rfl
          refine ⟨_, rfl, _, rfl, ite2 (fun _ => ?_) (fun z => absurd rfl z)⟩
          refine ⟨_, rfl, (by show 2 ≤ sizeLine; decide), fun p1 o1 p10 _ => ?_⟩
          generalize hG : upd Hu p1 (.frz o1 (.tup [.str "out", .str "up"])) = Hv
          have sv : Same Hu Hv := by rw [← hG]; exact same_new p10
          have zv : SqT K Hv p1 [.str "out", .str "up"] := .inl (.inr ⟨o1, by rw [← hG]; exact upd_same⟩)
          refine ⟨p1, _, rfl, .inr zv, rfl, rfl, _, rfl, ite2 (fun c1 => ?_) fun c1 => ?_⟩
          · have r' : wz = "out" ∨ wz = "up" := by
              have z : (("out" : Str) == wz || (("up" : Str) == wz || false)) = true := c1
              rw [Bool.or_false, Bool.or_eq_true] at z
              exact z.imp (fun z => (eq_of_beq z).symm) fun z => (eq_of_beq z).symm
            rw [if_pos r'] at hu2
            obtain rfl : u = .str "give" := by cases hu2; rfl
            exact ⟨rfl, _, rfl, ite2 (fun z => by simp at z) fun _ => fin sv⟩
          · have r' : ¬ (wz = "out" ∨ wz = "up") := by
              intro z
              refine c1 ?_
              show (("out" : Str) == wz || (("up" : Str) == wz || false)) = true
              rcases z with rfl | rfl <;> decide
            rw [if_neg r'] at hu2
            obtain rfl : u = .non := by cases hu2; rfl
            exact ⟨_, rfl, rfl, _, rfl, ite2 (fun z => by simp at z) fun _ => fin sv⟩
        | some g =>
          have e1 : leadR sts i wz = g := by unfold leadR; rw [ld]; rfl
          have e2 : stepD sts i wz = g := by unfold stepD; rw [ld]
          rw [e1] at hv
          rw [e2] at hu2
          rcases isG_cases (leadD_goal (steps_ok okm hi) ld) with ⟨z, _, rfl⟩ | ⟨z, _, rfl⟩
          · obtain rfl : v = .str z := by cases hv; rfl
            obtain rfl : u = .str z := by cases hu2; rfl
            refine ⟨_, rfl, _, rfl, ite2 (fun c1 => by cases (of_decide_eq_true c1)) (fun _ => ite2 (fun c1 => by cases c1) fun _ => ?_)⟩
            exact ⟨_, rfl, rfl, _, rfl, ite2 (fun z => by simp at z) fun _ => fin (Same.refl _)⟩
          · obtain rfl : v = .int z := by cases hv; rfl
            obtain rfl : u = .int z := by cases hu2; rfl
            refine ⟨_, rfl, _, rfl, ite2 (fun c1 => by cases (of_decide_eq_true c1)) (fun _ => ite2 (fun c1 => by cases c1) fun _ => ?_)⟩
            exact ⟨_, rfl, rfl, _, rfl, ite2 (fun z => by simp at z) fun _ => fin (Same.refl _)⟩
      · rintro σ Hy ⟨k5, k6, rfl, sy⟩
        exact ⟨_, _, _, rfl, sx.trans (s6.trans sy)⟩
    rintro σ Hx ⟨k4, k5, k6, rfl, sx⟩
    have T6 := T5.same sx
    have fz6 := fz5.same sx
    refine ⟨_, rfl, by decide, by decide, ?_⟩
    rw [show ((12 : Int)).toNat = 12 from rfl]
    refine for_range (lo := 0) (n := 12) (fun i σ Hy => ∃ k4 k5 k6 k7 k8 : Option V, σ = [some (.ref a), some (.ref t), some (.int (0 + (j : Int))), some (.ref ma), k4, k5, k6, k7, k8, k9, k10, k11, k12, none] ∧ TapeAt Hy t c (3000 * j + 600 + 40 * i) ∧ Fr [t] Hx Hy) ⟨_, _, _, _, _, rfl, T6.mono (by omega), Fr.refl _ _⟩ ?_ ?_
    · rintro i σ Hy hi ⟨k4, k5, k6, k7, k8, rfl, Ty, Fy⟩
      have fzy := fz6.fr T6 Fy
      refine ⟨_, rfl, _, rfl, t, c, .ref ma, .tuple sts, _, 10 ^ 59, rfl, Ty, by omega, fzy, gdB_mono (by decide) g, ⟨Nat.le_refl _, by decide⟩, by omega, by omega, by decide, fun v1 e1 H7 T7 F7 f7 be1 => ?_⟩
      obtain ⟨b1, b2, b3⟩ := be1
      refine ⟨_, rfl, v1, e1, rfl, f7, gdB_gd (by decide) b1, by omega, by omega, fun H8 s8 => ?_⟩
      refine ⟨_, rfl, ite2 (fun z => by cases z) fun _ => ?_⟩
      refine ⟨_, rfl, _, rfl, t, c, v1, e1, _, 10 ^ 59 + 1, rfl, T7.same s8, by omega, f7.same s8, b1, ⟨by decide, by decide⟩, by omega, by omega, by decide, fun v2 e2 H9 T9 F9 f9 be2 => ?_⟩
      obtain ⟨c1, c2, c3⟩ := be2
      refine ⟨v2, e2, rfl, f9, gdB_gd (by decide) c1, by omega, by omega, fun H10 s10 => ?_⟩
      refine ⟨_, rfl, ite2 (fun z => by cases z) fun _ => ?_⟩
      exact ⟨_, _, _, _, _, rfl, (T9.same s10).mono (by omega), Fy.trans (F7.trans ((Fr.same s8 _).trans (F9.trans (Fr.same s10 _))))⟩
    rintro σ Hy ⟨k4, k5, k6, k7, k8, rfl, Ty, Fy⟩
    have fzy := fz6.fr T6 Fy
    refine ⟨_, rfl, t, c, 9, _, rfl, Ty, ⟨by decide, by decide⟩, by omega, fun r9 H7 hr9 T7 F7 => ?_⟩
    obtain ⟨q9, rfl⟩ : ∃ q : Nat, r9 = q := ⟨r9.toNat, by omega⟩
    have fz7 := fzy.fr Ty F7
    refine ⟨_, _, rfl, rfl, ?_⟩
    refine ⟨_, rfl, _, rfl, by omega, by omega, ?_⟩
    rw [show ((1 : Int) + (q9 : Int)).toNat = 1 + q9 by omega]
    intro dd dd0
    refine lc_range (n := 1 + q9) (fun i Hx => ∃ (zs : List V) (ds : List PyData), Hx dd = some (.lst zs) ∧ FzAll K Hx zs ds ∧ ds.length = i ∧ (∀ d ∈ ds, Sml d) ∧ Same H7 Hx) ⟨[], [], upd_same, .nil, rfl, (fun d hd => absurd hd (by simp)), same_new dd0⟩ ?_ ?_
    · rintro i Hr hi ⟨zs, ds, x1, x2, x3, x4, sr⟩
      refine ⟨rfl, ?_⟩
      refine ⟨_, rfl, _, _, rfl, rfl, _, rfl, _, _, rfl, rfl, _, rfl, _, _, rfl, rfl, (by show (0 : Int) < 1 + (q9 : Int); omega), (by show 2 ≤ sizeLine; decide), new_kt (K := K) (.cons (.str "wait") (.cons (.int _) .nil)) fun a1 ys1 R1 t1 z1 f1 => ?_⟩
      refine ⟨(by show 1 ≤ sizeLine; decide), new_kt (K := K) (.cons (.tup z1 f1) .nil) fun a2 ys2 R2 t2 z2 f2 => ?_⟩
      refine ⟨(by show 2 ≤ sizeLine; decide), new_kt (K := K) (.cons (.int _) (.cons (.tup z2 f2) .nil)) fun a3 ys3 R3 t3 z3 f3 => ?_⟩
      have tt := t1.trans (t2.trans t3)
      have lz := x2.len
      have m0 : 0 ≤ (0 + (i : Int) + 1) % (1 + (q9 : Int)) := Int.emod_nonneg _ (by omega)
      have m1 : (0 + (i : Int) + 1) % (1 + (q9 : Int)) < 1 + (q9 : Int) := Int.emod_lt_of_pos _ (by omega)
      have sm : Sml (.tuple [.int (1 + (0 + (i : Int))), .tuple [.tuple [.str "wait", .int ((0 + (i : Int) + 1) % (1 + (q9 : Int)))]]]) := sml_ring (by omega) (by omega)
      have all2 : ∀ d ∈ ds ++ [.tuple [.int (1 + (0 + (i : Int))), .tuple [.tuple [.str "wait", .int ((0 + (i : Int) + 1) % (1 + (q9 : Int)))]]]], Sml d := fun d hd => by
        rcases List.mem_append.mp hd with h | h
        · exact x4 d h
        · rw [List.mem_singleton.mp h]; exact sm
      refine ⟨zs, tt _ _ x1, by omega, zs ++ [.ref a3], ds ++ [_], upd_same, ?_, by rw [List.length_append, x3]; rfl, all2, fun p o e => by rw [upd_ne (ne_of_none e dd0)]; exact tt _ _ (sr _ _ e)⟩
      exact FzAll.keepT (fun a' xs' z => z.put_lst (tt _ _ x1)) (noLAll_mem fun d hd => (all2 d hd).nl) ((x2.same tt).append (.cons (.tup z3 f3) .nil))
    rintro Hr ⟨zs, ds, x1, x2, x3, x4, sr⟩
    refine .inl ⟨dd, zs, rfl, SqL.of x1, new_kt (K := K) x2 fun ra rxs H8 s8 zr fr => ?_⟩
    have lr := fr.len
    have memc : ∀ {lo hi : Option Int}, ∀ d ∈ cutD ds lo hi, Sml d := fun d hd => x4 d (cutD_mem hd)
    have lenc : ∀ {lo hi : Option Int}, (cutD ds lo hi).length ≤ 9 := fun {lo hi} => Nat.le_trans (cutD_len ds lo hi) (by omega)
    refine ⟨_, rfl, _, rfl, _, rfl, slice_kt zr fr fun a1 ys1 G1 t1 z1 f1 => ?_⟩
    refine ⟨(by show 2 ≤ sizeLine; decide), new_kt (K := K) (.cons (.str "wait") (.cons (.str "claim") .nil)) fun a2 ys2 G2 t2 z2 f2 => ?_⟩
    refine ⟨(by show 2 ≤ sizeLine; decide), new_kt (K := K) (.cons (.str "up") (.cons (.int 0) .nil)) fun a3 ys3 G3 t3 z3 f3 => ?_⟩
    refine ⟨(by show 2 ≤ sizeLine; decide), new_kt (K := K) (.cons ((Fz.tup z2 f2).same t3) (.cons (.tup z3 f3) .nil)) fun a4 ys4 G4 t4 z4 f4 => ?_⟩
    refine ⟨(by show 2 ≤ sizeLine; decide), new_kt (K := K) (.cons (.int 9) (.cons (.tup z4 f4) .nil)) fun a5 ys5 G5 t5 z5 f5 => ?_⟩
    refine ⟨(by show 1 ≤ sizeLine; decide), new_kt (K := K) (.cons (.tup z5 f5) .nil) fun a6 ys6 G6 t6 z6 f6 => ?_⟩
    have t16 := t2.trans (t3.trans (t4.trans (t5.trans t6)))
    refine cat_kt (z1.same t16) (f1.same t16) z6 f6 ?_ fun a7 ys7 G7 t7 z7 f7 => ?_
    · rw [f1.len, f6.len]
      have := lenc (lo := none) (hi := some (-1))
      show _ + 1 ≤ sizeLine
      omega
    have t07 := t1.trans (t16.trans t7)
    have zr7 := zr.same t07
    have fr7 := fr.same t07
    refine ⟨_, rfl, _, rfl, _, rfl, _, rfl, _, rfl, slice_kt zr7 fr7 fun b1 xb1 K1 u1 y1 h1 => ?_⟩
    refine ⟨(by show 0 ≤ sizeLine; decide), new_kt (K := K) .nil fun b2 xb2 K2 u2 y2 h2 => ?_⟩
    refine ⟨(by show 2 ≤ sizeLine; decide), new_kt (K := K) (.cons .non (.cons (.tup y2 h2) .nil)) fun b3 xb3 K3 u3 y3 h3 => ?_⟩
    refine ⟨(by show 1 ≤ sizeLine; decide), new_kt (K := K) (.cons (.tup y3 h3) .nil) fun b4 xb4 K4 u4 y4 h4 => ?_⟩
    have u24 := u2.trans (u3.trans u4)
    refine cat_kt (y1.same u24) (h1.same u24) y4 h4 ?_ fun b5 xb5 K5 u5 y5 h5 => ?_
    · rw [h1.len, h4.len]
      have := lenc (lo := none) (hi := some (-1))
      show _ + 1 ≤ sizeLine
      omega
    refine ⟨(by show 0 ≤ sizeLine; decide), new_kt (K := K) .nil fun b6 xb6 K6 u6 y6 h6 => ?_⟩
    refine ⟨(by show 0 ≤ sizeLine; decide), fun l5 l50 => ?_⟩
    generalize hK7 : upd K6 l5 (.lst []) = K7
    have u7 : Same K6 K7 := by rw [← hK7]; exact same_new l50
    have y7 : K7 l5 = some (.lst []) := by rw [← hK7]; exact upd_same
    refine ⟨(by show 0 ≤ sizeLine; decide), new_kt (K := K) .nil fun b8 xb8 K8 u8 y8 h8 => ?_⟩
    refine ⟨(by show 1 ≤ sizeLine; decide), new_kt (K := K) (.cons (.tup y8 h8) .nil) fun b9 xb9 K9 u9 y9 h9 => ?_⟩
    have u19 := u1.trans (u24.trans (u5.trans (u6.trans (u7.trans (u8.trans u9)))))
    refine ⟨_, rfl, _, rfl, cat_kt (zr7.same u19) (fr7.same u19) (zr7.same u19) (fr7.same u19) (by omega) fun b11 xb11 K11 u11 y11 h11 => ?_⟩
    have v07 := (sr.trans s8).trans t07
    have v0 := v07.trans (u19.trans u11)
    obtain ⟨ma', mxs', em, zm7, fm7⟩ := fz7.tupOf
    cases em
    refine ⟨_, rfl, ma, mxs', rfl, .inr (zm7.same v0).sq, fun l12 l120 => ?_⟩
    generalize hK12 : upd K11 l12 (.lst mxs') = K12
    have u12 : Same K11 K12 := by rw [← hK12]; exact same_new l120
    have y12 : K12 l12 = some (.lst mxs') := by rw [← hK12]; exact upd_same
    refine ⟨(by show 12 ≤ sizeLine; decide), fun lf lf0 => ?_⟩
    generalize hL : ([.ref ra, .ref a7, .ref b5, .ref b6, .ref l5, .non, .ref b9, .str "claim", .int 0, .bl true, .ref b11, .ref l12] : List V) = L
    generalize hK13 : upd K12 lf (.lst L) = K13
    have u13 : Same K12 K13 := by rw [← hK13]; exact same_new lf0
    have y13 : K13 lf = some (.lst L) := by rw [← hK13]; exact upd_same
    have u1213 := u12.trans u13
    have u1113 := u11.trans u1213
    have all_ : ∀ v ∈ L, ∃ e, Fz K K13 v e ∧ Fit e := by
      intro v hv
      rw [← hL] at hv
      simp only [List.mem_cons, List.not_mem_nil, or_false] at hv
      have lds : ds.length ≤ 10 := by omega
      rcases hv with rfl | rfl | rfl | rfl | rfl | rfl | rfl | rfl | rfl | rfl | rfl | rfl
      · exact ⟨_, (Fz.tup zr7 fr7).same (u19.trans u1113), fit_tup x4 (by omega)⟩
      · refine ⟨_, (Fz.tup z7 f7).same (u19.trans u1113), fit_tup (fun d hd => ?_) ?_⟩
        · rcases List.mem_append.mp hd with h | h
          · exact memc d h
          · rw [List.mem_singleton.mp h]; exact sml_open
        · rw [List.length_append]
          have := lenc (lo := none) (hi := some (-1))
          show _ + 1 ≤ 40
          omega
      · refine ⟨_, (Fz.tup y5 h5).same (u6.trans (u7.trans (u8.trans (u9.trans u1113)))), fit_tup (fun d hd => ?_) ?_⟩
        · rcases List.mem_append.mp hd with h | h
          · exact memc d h
          · rw [List.mem_singleton.mp h]; exact sml_bare
        · rw [List.length_append]
          have := lenc (lo := none) (hi := some (-1))
          show _ + 1 ≤ 40
          omega
      · exact ⟨_, (Fz.tup y6 h6).same (u7.trans (u8.trans (u9.trans u1113))), fit_tup (fun d hd => absurd hd (by simp)) (by show 0 ≤ 40; omega)⟩
      · exact ⟨.list [], .lst ((u8.trans (u9.trans u1113)) _ _ y7) .nil, fit_of rfl (by decide) (by decide)⟩
      · exact ⟨_, .non, fit_of rfl (by decide) (by decide)⟩
      · exact ⟨_, (Fz.tup y9 h9).same u1113, fit_of rfl (by decide) (by decide)⟩
      · exact ⟨_, .str _, fit_of (by decide +kernel) (by decide +kernel) (by decide)⟩
      · exact ⟨_, .int _, fit_of (by decide +kernel) (by decide) (by decide)⟩
      · exact ⟨_, .bl _, fit_of rfl (by decide) (by decide)⟩
      · refine ⟨_, (Fz.tup y11 h11).same u1213, fit_tup (fun d hd => ?_) ?_⟩
        · rcases List.mem_append.mp hd with h | h
          · exact x4 d h
          · exact x4 d h
        · rw [List.length_append]; omega
      · refine ⟨.list sts, .lst (u13 _ _ y12) (fm7.same (v0.trans u1213)), fit_of g ?_ ?_⟩
        · exact Nat.le_trans (show SG.wt (.list sts) ≤ 10000 from wt_) (by decide)
        · exact Nat.le_trans (show (PyData.list sts).depth ≤ 4 from dp) (by decide)
    have vall := v0.trans u1213
    refine ⟨lf, rfl, ⟨_, SqL.of y13⟩, ?_⟩
    refine for_list (K := K) (a := lf) (xs := L) (fun i σ Hz => ∃ k9 k10 k11 k12 : Option V, σ = [some (.ref a), some (.ref t), some (.int (0 + (j : Int))), some (.ref ma), k4, k5, k6, k7, k8, k9, k10, k11, k12, none] ∧ Same K13 Hz) ⟨_, _, _, _, rfl, Same.refl _⟩ (fun i σ Hz _ ⟨_, _, _, _, _, sz'⟩ => SqL.of (sz' _ _ y13)) ?_ ?_
    · rintro i v σ Hz hi ⟨k9, k10, k11, k12, rfl, sz'⟩
      obtain ⟨e, fe, ⟨f1', f2', f3'⟩⟩ := all_ v (List.mem_of_getElem? hi)
      refine ⟨_, rfl, v, e, rfl, fe.same sz', f1', f2', f3', fun Hw sw => ?_⟩
      exact ⟨_, rfl, ite2 (fun z => by cases z) fun _ => ⟨_, _, _, _, rfl, sz'.trans sw⟩⟩
    · rintro σ Hz ⟨k9, k10, k11, k12, rfl, sz'⟩
      exact ⟨_, _, _, _, _, _, _, _, _, _, _, rfl, (T7.same (vall.trans sz')).mono (by omega)⟩
  · rintro σ Hz ⟨k2, k3, k4, k5, k6, k7, k8, k9, k10, k11, k12, rfl, Tz'⟩
    exact k Hz
end
end SG
namespace SG
open PySem PySem.Spec PyProof.Rows L2
theorem all_mk {l : PySem.W.OpenLaw} {w : World} {K : PySem.W.Frag} {h : Heap} {mg : Str → Option Value} {fa f1 f2 f3 f4 f5 f6 f7 f8 f9 f10 f11 f12 f13 f14 f15 f16 f17 f18 f19 f20 : Addr} (X : K.In h) (G : h.Ns mainGlobals mg) (hfa : mg "law" = some (.ref fa)) {od1 an1 od2 an2 od3 an3 od4 an4 od5 an5 od6 an6 od7 an7 od8 an8 od9 an9 od10 an10 od11 an11 od12 an12 od13 an13 od14 an14 od15 an15 od16 an16 od17 an17 od18 an18 od19 an19 od20 an20 : Option Addr} {sl1 sl2 sl3 sl4 sl5 sl6 sl7 sl8 sl9 sl10 sl11 sl12 sl13 sl14 sl15 sl16 sl17 sl18 sl19 sl20 : Array (Option Value)} {oc1 kV1 dc1 pm1 cd1 ct1 oc2 kV2 dc2 pm2 cd2 ct2 oc3 kV3 dc3 pm3 cd3 ct3 oc4 kV4 dc4 pm4 cd4 ct4 oc5 kV5 dc5 pm5 cd5 ct5 oc6 kV6 dc6 pm6 cd6 ct6 oc7 kV7 dc7 pm7 cd7 ct7 oc8 kV8 dc8 pm8 cd8 ct8 oc9 kV9 dc9 pm9 cd9 ct9 oc10 kV10 dc10 pm10 cd10 ct10 oc11 kV11 dc11 pm11 cd11 ct11 oc12 kV12 dc12 pm12 cd12 ct12 oc13 kV13 dc13 pm13 cd13 ct13 oc14 kV14 dc14 pm14 cd14 ct14 oc15 kV15 dc15 pm15 cd15 ct15 oc16 kV16 dc16 pm16 cd16 ct16 oc17 kV17 dc17 pm17 cd17 ct17 oc18 kV18 dc18 pm18 cd18 ct18 oc19 kV19 dc19 pm19 cd19 ct19 oc20 kV20 dc20 pm20 cd20 ct20 : Value} {aSTEP_WORDS : Addr} {dSTEP_WORDS : Option Addr} {nSTEP_WORDS : Nat} {sSTEP_WORDS : Array (Option Value)} {uSTEP_WORDS0 uSTEP_WORDS1 uSTEP_WORDS2 uSTEP_WORDS3 : Tok} {aENDS : Addr} {dENDS : Option Addr} {nENDS : Nat} {sENDS : Array (Option Value)} {uENDS0 uENDS1 : Tok} {tMOST_STATES tLONGEST_WAIT : Tok}
    (a1 : PySem.W.nsIn K mainGlobals "is_between" = some (some (.ref f1)))
    (l1 : K.lookup f1 = some ⟨oc1, od1, .func (PySem.W.fnOf "is_between" "is_between" (defArgs sis_between) (defBody sis_between) (defScope sis_between) .none kV1 dc1 pm1 an1 cd1 ct1), sl1⟩)
    (c1 : PySem.W.codeIn K cd1 "is_between" = true)
    (k1 : PySem.W.keepIn K (.ref f1) = true)
    (a2 : PySem.W.nsIn K mainGlobals "is_row" = some (some (.ref f2)))
    (l2 : K.lookup f2 = some ⟨oc2, od2, .func (PySem.W.fnOf "is_row" "is_row" (defArgs sis_row) (defBody sis_row) (defScope sis_row) .none kV2 dc2 pm2 an2 cd2 ct2), sl2⟩)
    (c2 : PySem.W.codeIn K cd2 "is_row" = true)
    (k2 : PySem.W.keepIn K (.ref f2) = true)
    (a3 : PySem.W.nsIn K mainGlobals "are_unlike" = some (some (.ref f3)))
    (l3 : K.lookup f3 = some ⟨oc3, od3, .func (PySem.W.fnOf "are_unlike" "are_unlike" (defArgs sare_unlike) (defBody sare_unlike) (defScope sare_unlike) .none kV3 dc3 pm3 an3 cd3 ct3), sl3⟩)
    (c3 : PySem.W.codeIn K cd3 "are_unlike" = true)
    (k3 : PySem.W.keepIn K (.ref f3) = true)
    (a4 : PySem.W.nsIn K mainGlobals "is_machine" = some (some (.ref f4)))
    (l4 : K.lookup f4 = some ⟨oc4, od4, .func (PySem.W.fnOf "is_machine" "is_machine" (defArgs sis_machine) (defBody sis_machine) (defScope sis_machine) .none kV4 dc4 pm4 an4 cd4 ct4), sl4⟩)
    (c4 : PySem.W.codeIn K cd4 "is_machine" = true)
    (k4 : PySem.W.keepIn K (.ref f4) = true)
    (a5 : PySem.W.nsIn K mainGlobals "stepped" = some (some (.ref f5)))
    (l5 : K.lookup f5 = some ⟨oc5, od5, .func (PySem.W.fnOf "stepped" "stepped" (defArgs sstepped) (defBody sstepped) (defScope sstepped) .none kV5 dc5 pm5 an5 cd5 ct5), sl5⟩)
    (c5 : PySem.W.codeIn K cd5 "stepped" = true)
    (k5 : PySem.W.keepIn K (.ref f5) = true)
    (a6 : PySem.W.nsIn K mainGlobals "_is_state" = some (some (.ref f6)))
    (l6 : K.lookup f6 = some ⟨oc6, od6, .func (PySem.W.fnOf "_is_state" "_is_state" (defArgs s_is_state) (defBody s_is_state) (defScope s_is_state) .none kV6 dc6 pm6 an6 cd6 ct6), sl6⟩)
    (c6 : PySem.W.codeIn K cd6 "_is_state" = true)
    (k6 : PySem.W.keepIn K (.ref f6) = true)
    (a7 : PySem.W.nsIn K mainGlobals "_is_step" = some (some (.ref f7)))
    (l7 : K.lookup f7 = some ⟨oc7, od7, .func (PySem.W.fnOf "_is_step" "_is_step" (defArgs s_is_step) (defBody s_is_step) (defScope s_is_step) .none kV7 dc7 pm7 an7 cd7 ct7), sl7⟩)
    (c7 : PySem.W.codeIn K cd7 "_is_step" = true)
    (k7 : PySem.W.keepIn K (.ref f7) = true)
    (a8 : PySem.W.nsIn K mainGlobals "_waits_on" = some (some (.ref f8)))
    (l8 : K.lookup f8 = some ⟨oc8, od8, .func (PySem.W.fnOf "_waits_on" "_waits_on" (defArgs s_waits_on) (defBody s_waits_on) (defScope s_waits_on) .none kV8 dc8 pm8 an8 cd8 ct8), sl8⟩)
    (c8 : PySem.W.codeIn K cd8 "_waits_on" = true)
    (k8 : PySem.W.keepIn K (.ref f8) = true)
    (a9 : PySem.W.nsIn K mainGlobals "_law_tape" = some (some (.ref f9)))
    (l9 : K.lookup f9 = some ⟨oc9, od9, .func (PySem.W.fnOf "_law_tape" "_law_tape" (defArgs s_law_tape) (defBody s_law_tape) (defScope s_law_tape) .none kV9 dc9 pm9 an9 cd9 ct9), sl9⟩)
    (c9 : PySem.W.codeIn K cd9 "_law_tape" = true)
    (k9 : PySem.W.keepIn K (.ref f9) = true)
    (a10 : PySem.W.nsIn K mainGlobals "_law_draw" = some (some (.ref f10)))
    (l10 : K.lookup f10 = some ⟨oc10, od10, .func (PySem.W.fnOf "_law_draw" "_law_draw" (defArgs s_law_draw) (defBody s_law_draw) (defScope s_law_draw) .none kV10 dc10 pm10 an10 cd10 ct10), sl10⟩)
    (c10 : PySem.W.codeIn K cd10 "_law_draw" = true)
    (k10 : PySem.W.keepIn K (.ref f10) = true)
    (a11 : PySem.W.nsIn K mainGlobals "_law_pick" = some (some (.ref f11)))
    (l11 : K.lookup f11 = some ⟨oc11, od11, .func (PySem.W.fnOf "_law_pick" "_law_pick" (defArgs s_law_pick) (defBody s_law_pick) (defScope s_law_pick) .none kV11 dc11 pm11 an11 cd11 ct11), sl11⟩)
    (c11 : PySem.W.codeIn K cd11 "_law_pick" = true)
    (k11 : PySem.W.keepIn K (.ref f11) = true)
    (a12 : PySem.W.nsIn K mainGlobals "_law_lead" = some (some (.ref f12)))
    (l12 : K.lookup f12 = some ⟨oc12, od12, .func (PySem.W.fnOf "_law_lead" "_law_lead" (defArgs s_law_lead) (defBody s_law_lead) (defScope s_law_lead) .none kV12 dc12 pm12 an12 cd12 ct12), sl12⟩)
    (c12 : PySem.W.codeIn K cd12 "_law_lead" = true)
    (k12 : PySem.W.keepIn K (.ref f12) = true)
    (a13 : PySem.W.nsIn K mainGlobals "_law_moved" = some (some (.ref f13)))
    (l13 : K.lookup f13 = some ⟨oc13, od13, .func (PySem.W.fnOf "_law_moved" "_law_moved" (defArgs s_law_moved) (defBody s_law_moved) (defScope s_law_moved) .none kV13 dc13 pm13 an13 cd13 ct13), sl13⟩)
    (c13 : PySem.W.codeIn K cd13 "_law_moved" = true)
    (k13 : PySem.W.keepIn K (.ref f13) = true)
    (a14 : PySem.W.nsIn K mainGlobals "_law_machine" = some (some (.ref f14)))
    (l14 : K.lookup f14 = some ⟨oc14, od14, .func (PySem.W.fnOf "_law_machine" "_law_machine" (defArgs s_law_machine) (defBody s_law_machine) (defScope s_law_machine) .none kV14 dc14 pm14 an14 cd14 ct14), sl14⟩)
    (c14 : PySem.W.codeIn K cd14 "_law_machine" = true)
    (k14 : PySem.W.keepIn K (.ref f14) = true)
    (a15 : PySem.W.nsIn K mainGlobals "_law_is_goal" = some (some (.ref f15)))
    (l15 : K.lookup f15 = some ⟨oc15, od15, .func (PySem.W.fnOf "_law_is_goal" "_law_is_goal" (defArgs s_law_is_goal) (defBody s_law_is_goal) (defScope s_law_is_goal) .none kV15 dc15 pm15 an15 cd15 ct15), sl15⟩)
    (c15 : PySem.W.codeIn K cd15 "_law_is_goal" = true)
    (k15 : PySem.W.keepIn K (.ref f15) = true)
    (a16 : PySem.W.nsIn K mainGlobals "_law_is_state" = some (some (.ref f16)))
    (l16 : K.lookup f16 = some ⟨oc16, od16, .func (PySem.W.fnOf "_law_is_state" "_law_is_state" (defArgs s_law_is_state) (defBody s_law_is_state) (defScope s_law_is_state) .none kV16 dc16 pm16 an16 cd16 ct16), sl16⟩)
    (c16 : PySem.W.codeIn K cd16 "_law_is_state" = true)
    (k16 : PySem.W.keepIn K (.ref f16) = true)
    (a17 : PySem.W.nsIn K mainGlobals "_law_is_machine" = some (some (.ref f17)))
    (l17 : K.lookup f17 = some ⟨oc17, od17, .func (PySem.W.fnOf "_law_is_machine" "_law_is_machine" (defArgs s_law_is_machine) (defBody s_law_is_machine) (defScope s_law_is_machine) .none kV17 dc17 pm17 an17 cd17 ct17), sl17⟩)
    (c17 : PySem.W.codeIn K cd17 "_law_is_machine" = true)
    (k17 : PySem.W.keepIn K (.ref f17) = true)
    (a18 : PySem.W.nsIn K mainGlobals "_law_bent" = some (some (.ref f18)))
    (l18 : K.lookup f18 = some ⟨oc18, od18, .func (PySem.W.fnOf "_law_bent" "_law_bent" (defArgs s_law_bent) (defBody s_law_bent) (defScope s_law_bent) .none kV18 dc18 pm18 an18 cd18 ct18), sl18⟩)
    (c18 : PySem.W.codeIn K cd18 "_law_bent" = true)
    (k18 : PySem.W.keepIn K (.ref f18) = true)
    (a19 : PySem.W.nsIn K mainGlobals "_law_agrees" = some (some (.ref f19)))
    (l19 : K.lookup f19 = some ⟨oc19, od19, .func (PySem.W.fnOf "_law_agrees" "_law_agrees" (defArgs s_law_agrees) (defBody s_law_agrees) (defScope s_law_agrees) .none kV19 dc19 pm19 an19 cd19 ct19), sl19⟩)
    (c19 : PySem.W.codeIn K cd19 "_law_agrees" = true)
    (k19 : PySem.W.keepIn K (.ref f19) = true)
    (a20 : PySem.W.nsIn K mainGlobals "law" = some (some (.ref f20)))
    (l20 : K.lookup f20 = some ⟨oc20, od20, .func (PySem.W.fnOf "law" "law" (defArgs slaw) (defBody slaw) (defScope slaw) .none kV20 dc20 pm20 an20 cd20 ct20), sl20⟩)
    (c20 : PySem.W.codeIn K cd20 "law" = true)
    (k20 : PySem.W.keepIn K (.ref f20) = true)
    (zall : PySem.W.nsIn K mainGlobals "all" = some none)
    (zany : PySem.W.nsIn K mainGlobals "any" = some none)
    (zbool : PySem.W.nsIn K mainGlobals "bool" = some none)
    (zdict : PySem.W.nsIn K mainGlobals "dict" = some none)
    (zint : PySem.W.nsIn K mainGlobals "int" = some none)
    (zisinstance : PySem.W.nsIn K mainGlobals "isinstance" = some none)
    (zlen : PySem.W.nsIn K mainGlobals "len" = some none)
    (zlist : PySem.W.nsIn K mainGlobals "list" = some none)
    (zmin : PySem.W.nsIn K mainGlobals "min" = some none)
    (zrange : PySem.W.nsIn K mainGlobals "range" = some none)
    (zrepr : PySem.W.nsIn K mainGlobals "repr" = some none)
    (zset : PySem.W.nsIn K mainGlobals "set" = some none)
    (zstr : PySem.W.nsIn K mainGlobals "str" = some none)
    (ztuple : PySem.W.nsIn K mainGlobals "tuple" = some none)
    (yMOST_STATES : PySem.W.nsIn K mainGlobals "MOST_STATES" = some (some (.int 8 tMOST_STATES)))
    (yLONGEST_WAIT : PySem.W.nsIn K mainGlobals "LONGEST_WAIT" = some (some (.int 10000 tLONGEST_WAIT)))
    (ySTEP_WORDS : PySem.W.nsIn K mainGlobals "STEP_WORDS" = some (some (.ref aSTEP_WORDS)))
    (xSTEP_WORDS : K.lookup aSTEP_WORDS = some ⟨.type "tuple", dSTEP_WORDS, .seq #[.str "out" uSTEP_WORDS0, .str "up" uSTEP_WORDS1, .str "down" uSTEP_WORDS2, .str "wait" uSTEP_WORDS3] nSTEP_WORDS, sSTEP_WORDS⟩)
    (yENDS : PySem.W.nsIn K mainGlobals "ENDS" = some (some (.ref aENDS)))
    (xENDS : K.lookup aENDS = some ⟨.type "tuple", dENDS, .seq #[.str "claim" uENDS0, .str "give" uENDS1] nENDS, sENDS⟩)
    : ∃ fd : FuncData, (∀ (s : Shared) (v : Value), BindsTo s fd ⟨[v], []⟩ [("_law_script", v)]) ∧ ∀ base : Heap, K.In base → base.Ns mainGlobals mg → FnG l.prog w K mg base 10 fa fd ["_law_script"] (spLaw K) := by
  have e := hfa.symm.trans (PySem.W.mg_of X G a20)
  cases e
  have T : Txt K mg := ⟨PySem.W.mg_none_of X G zall, PySem.W.mg_none_of X G zany, PySem.W.mg_none_of X G zbool, PySem.W.mg_none_of X G zdict, PySem.W.mg_none_of X G zint, PySem.W.mg_none_of X G zisinstance, PySem.W.mg_none_of X G zlen, PySem.W.mg_none_of X G zlist, PySem.W.mg_none_of X G zmin, PySem.W.mg_none_of X G zrange, PySem.W.mg_none_of X G zrepr, PySem.W.mg_none_of X G zset, PySem.W.mg_none_of X G zstr, PySem.W.mg_none_of X G ztuple, ⟨_, PySem.W.mg_of X G yMOST_STATES⟩, ⟨_, PySem.W.mg_of X G yLONGEST_WAIT⟩, ⟨_, PySem.W.mg_of X G ySTEP_WORDS, fun _ => .inr ⟨_, _, _, xSTEP_WORDS, rfl, rfl, by show 4 ≤ sizeLine; decide, (.cons ⟨_, rfl⟩ (.cons ⟨_, rfl⟩ (.cons ⟨_, rfl⟩ (.cons ⟨_, rfl⟩ .nil))))⟩⟩, ⟨_, PySem.W.mg_of X G yENDS, fun _ => .inr ⟨_, _, _, xENDS, rfl, rfl, by show 2 ≤ sizeLine; decide, (.cons ⟨_, rfl⟩ (.cons ⟨_, rfl⟩ .nil))⟩⟩⟩
  have F1 := fun_mk (st := sis_between) l1 c1 k1
  have Dis_between : Df K mg "is_between" sis_between ["thing", "least", "most"] := ⟨⟨_, _, F1, PySem.W.mg_of X G a1, F1.binds (ps := ["thing", "least", "most"]) fun _ _ _ _ _ _ us hl => match us, hl with | [_, _, _], _ => rfl⟩⟩
  have F2 := fun_mk (st := sis_row) l2 c2 k2
  have Dis_row : Df K mg "is_row" sis_row ["thing", "many"] := ⟨⟨_, _, F2, PySem.W.mg_of X G a2, F2.binds (ps := ["thing", "many"]) fun _ _ _ _ _ _ us hl => match us, hl with | [_, _], _ => rfl⟩⟩
  have F3 := fun_mk (st := sare_unlike) l3 c3 k3
  have Dare_unlike : Df K mg "are_unlike" sare_unlike ["keys"] := ⟨⟨_, _, F3, PySem.W.mg_of X G a3, F3.binds (ps := ["keys"]) fun _ _ _ _ _ _ us hl => match us, hl with | [_], _ => rfl⟩⟩
  have F4 := fun_mk (st := sis_machine) l4 c4 k4
  have Dis_machine : Df K mg "is_machine" sis_machine ["thing"] := ⟨⟨_, _, F4, PySem.W.mg_of X G a4, F4.binds (ps := ["thing"]) fun _ _ _ _ _ _ us hl => match us, hl with | [_], _ => rfl⟩⟩
  have F5 := fun_mk (st := sstepped) l5 c5 k5
  have Dstepped : Df K mg "stepped" sstepped ["machine", "state", "word"] := ⟨⟨_, _, F5, PySem.W.mg_of X G a5, F5.binds (ps := ["machine", "state", "word"]) fun _ _ _ _ _ _ us hl => match us, hl with | [_, _, _], _ => rfl⟩⟩
  have F6 := fun_mk (st := s_is_state) l6 c6 k6
  have D_is_state : Df K mg "_is_state" s_is_state ["thing", "many"] := ⟨⟨_, _, F6, PySem.W.mg_of X G a6, F6.binds (ps := ["thing", "many"]) fun _ _ _ _ _ _ us hl => match us, hl with | [_, _], _ => rfl⟩⟩
  have F7 := fun_mk (st := s_is_step) l7 c7 k7
  have D_is_step : Df K mg "_is_step" s_is_step ["thing", "many"] := ⟨⟨_, _, F7, PySem.W.mg_of X G a7, F7.binds (ps := ["thing", "many"]) fun _ _ _ _ _ _ us hl => match us, hl with | [_, _], _ => rfl⟩⟩
  have F8 := fun_mk (st := s_waits_on) l8 c8 k8
  have D_waits_on : Df K mg "_waits_on" s_waits_on ["machine", "state"] := ⟨⟨_, _, F8, PySem.W.mg_of X G a8, F8.binds (ps := ["machine", "state"]) fun _ _ _ _ _ _ us hl => match us, hl with | [_, _], _ => rfl⟩⟩
  have F9 := fun_mk (st := s_law_tape) l9 c9 k9
  have D_law_tape : Df K mg "_law_tape" s_law_tape ["_law_script"] := ⟨⟨_, _, F9, PySem.W.mg_of X G a9, F9.binds (ps := ["_law_script"]) fun _ _ _ _ _ _ us hl => match us, hl with | [_], _ => rfl⟩⟩
  have F10 := fun_mk (st := s_law_draw) l10 c10 k10
  have D_law_draw : Df K mg "_law_draw" s_law_draw ["_law_tape_here", "_law_many"] := ⟨⟨_, _, F10, PySem.W.mg_of X G a10, F10.binds (ps := ["_law_tape_here", "_law_many"]) fun _ _ _ _ _ _ us hl => match us, hl with | [_, _], _ => rfl⟩⟩
  have F11 := fun_mk (st := s_law_pick) l11 c11 k11
  have D_law_pick : Df K mg "_law_pick" s_law_pick ["_law_tape_here", "_law_some"] := ⟨⟨_, _, F11, PySem.W.mg_of X G a11, F11.binds (ps := ["_law_tape_here", "_law_some"]) fun _ _ _ _ _ _ us hl => match us, hl with | [_, _], _ => rfl⟩⟩
  have F12 := fun_mk (st := s_law_lead) l12 c12 k12
  have D_law_lead : Df K mg "_law_lead" s_law_lead ["_law_machine_here", "_law_at", "_law_word"] := ⟨⟨_, _, F12, PySem.W.mg_of X G a12, F12.binds (ps := ["_law_machine_here", "_law_at", "_law_word"]) fun _ _ _ _ _ _ us hl => match us, hl with | [_, _, _], _ => rfl⟩⟩
  have F13 := fun_mk (st := s_law_moved) l13 c13 k13
  have D_law_moved : Df K mg "_law_moved" s_law_moved ["_law_states", "_law_order"] := ⟨⟨_, _, F13, PySem.W.mg_of X G a13, F13.binds (ps := ["_law_states", "_law_order"]) fun _ _ _ _ _ _ us hl => match us, hl with | [_, _], _ => rfl⟩⟩
  have F14 := fun_mk (st := s_law_machine) l14 c14 k14
  have D_law_machine : Df K mg "_law_machine" s_law_machine ["_law_tape_here", "_law_many"] := ⟨⟨_, _, F14, PySem.W.mg_of X G a14, F14.binds (ps := ["_law_tape_here", "_law_many"]) fun _ _ _ _ _ _ us hl => match us, hl with | [_, _], _ => rfl⟩⟩
  have F15 := fun_mk (st := s_law_is_goal) l15 c15 k15
  have D_law_is_goal : Df K mg "_law_is_goal" s_law_is_goal ["_law_thing", "_law_many"] := ⟨⟨_, _, F15, PySem.W.mg_of X G a15, F15.binds (ps := ["_law_thing", "_law_many"]) fun _ _ _ _ _ _ us hl => match us, hl with | [_, _], _ => rfl⟩⟩
  have F16 := fun_mk (st := s_law_is_state) l16 c16 k16
  have D_law_is_state : Df K mg "_law_is_state" s_law_is_state ["_law_thing", "_law_many"] := ⟨⟨_, _, F16, PySem.W.mg_of X G a16, F16.binds (ps := ["_law_thing", "_law_many"]) fun _ _ _ _ _ _ us hl => match us, hl with | [_, _], _ => rfl⟩⟩
  have F17 := fun_mk (st := s_law_is_machine) l17 c17 k17
  have D_law_is_machine : Df K mg "_law_is_machine" s_law_is_machine ["_law_thing"] := ⟨⟨_, _, F17, PySem.W.mg_of X G a17, F17.binds (ps := ["_law_thing"]) fun _ _ _ _ _ _ us hl => match us, hl with | [_], _ => rfl⟩⟩
  have F18 := fun_mk (st := s_law_bent) l18 c18 k18
  have D_law_bent : Df K mg "_law_bent" s_law_bent ["_law_tape_here", "_law_thing"] := ⟨⟨_, _, F18, PySem.W.mg_of X G a18, F18.binds (ps := ["_law_tape_here", "_law_thing"]) fun _ _ _ _ _ _ us hl => match us, hl with | [_, _], _ => rfl⟩⟩
  have F19 := fun_mk (st := s_law_agrees) l19 c19 k19
  have D_law_agrees : Df K mg "_law_agrees" s_law_agrees ["_law_thing"] := ⟨⟨_, _, F19, PySem.W.mg_of X G a19, F19.binds (ps := ["_law_thing"]) fun _ _ _ _ _ _ us hl => match us, hl with | [_], _ => rfl⟩⟩
  have F20 := fun_mk (st := slaw) l20 c20 k20
  refine ⟨PySem.W.fnOf "law" "law" (defArgs slaw) (defBody slaw) (defScope slaw) .none kV20 dc20 pm20 an20 cd20 ct20, fun s v => .of_eq rfl, fun base _ _ => ?_⟩
  have Flaw := F20
  have c1 := ok_between (P := l.prog) (w := w) (base := base) Dis_between T
  have c2 := ok_row (P := l.prog) (w := w) (base := base) Dis_row T
  have c3 := ok_unlike (P := l.prog) (w := w) (base := base) Dare_unlike T
  have c4 := ok_step (P := l.prog) (w := w) (base := base) D_is_step T c2 c1
  have c5 := ok_stepped (P := l.prog) (w := w) (base := base) Dstepped T
  have c6 := ok_state (P := l.prog) (w := w) (base := base) D_is_state T c2 c1 c3 c4
  have c7 := ok_waits (P := l.prog) (w := w) (base := base) D_waits_on T c5
  have c8 := ok_mach (P := l.prog) (w := w) (base := base) Dis_machine T c6 c7
  have c9 := ok_goal (P := l.prog) (w := w) (base := base) D_law_is_goal T
  have c10 := ok_lstate (P := l.prog) (w := w) (base := base) D_law_is_state T c9
  have c11 := ok_lead (P := l.prog) (w := w) (base := base) D_law_lead T
  have c12 := ok_lmach (P := l.prog) (w := w) (base := base) D_law_is_machine T c10 c11
  have c13 := ok_agrees (P := l.prog) (w := w) (base := base) D_law_agrees T c8 c12
  have c14 := ok_draw (P := l.prog) (w := w) (base := base) D_law_draw T
  have c15 := ok_tape (P := l.prog) (w := w) (base := base) D_law_tape T
  have c16 := ok_pick (P := l.prog) (w := w) (base := base) D_law_pick T c14
  have c17 := ok_bent (P := l.prog) (w := w) (base := base) D_law_bent T c14 c16 6
  have c18 := ok_moved (P := l.prog) (w := w) (base := base) D_law_moved T
  have c19 := ok_machine (P := l.prog) (w := w) (base := base) D_law_machine T c14 c16 c18
  exact ok_law Flaw T c15 c14 c19 c13 c12 c11 c5 c17
theorem walk {l : PySem.W.OpenLaw} {q : Program} {loose : List Str} {XP : (Str → Option Value) → Heap → Prop} {YP : World → Heap → Prop} {d : DefRec} {K : Params → PySem.W.Frag} (hn : l.most = some 63) (hdf : d.params.defaults = [])
    (hY : ∀ (w : World) (h : Heap), YP w h → (K w.params).In h)
    (F : ∀ (w : World) (mg : Str → Option Value) (fa : Addr) (h : Heap), (K w.params).In h → h.Ns mainGlobals mg → mg d.name = some (.ref fa) →
      ∃ fd : FuncData, (∀ (s : Shared) (u : Value), BindsTo s fd ⟨[u], []⟩ [("_law_script", u)]) ∧ ∀ base : Heap, (K w.params).In base → base.Ns mainGlobals mg → FnG l.prog w (K w.params) mg base 10 fa fd ["_law_script"] (spLaw (K w.params))) :
    PySem.W.WalkO q loose XP YP l.row.toRowW d [] (fun f vs => PySem.call f vs) :=
  walkG (n := 63) (k := 10) (x := "_law_script") (sp := fun w => spLaw (K w.params)) hn (by decide) hdf ⟨rfl, by decide, by decide⟩ hY F fun _ _ a ns hl _ hS => ⟨a, ns, rfl, hS, hl, fun _ => rfl⟩
end SG
open PySem PySem.W PyProof.Rows
set_option maxRecDepth 100000 in
set_option maxHeartbeats 0 in
theorem PySem.Challenge.cw_strokeguess_k73_machines_or_not_holds : PySem.Challenge.rw_strokeguess_k73_machines_or_not.Holds := by
  w_on; o_law; k_head; (case hw => w_witness2)
  k_fill
  refine SG.walk (l := PySem.Challenge.rw_strokeguess_k73_machines_or_not) rfl rfl (fun w h Y => PySem.W.kIn_of Y) ?F
  case F =>
    intro w mg fa h KX G hmg
    refine' SG.all_mk KX G hmg ?a1 ?l1 ?c1 ?k1 ?a2 ?l2 ?c2 ?k2 ?a3 ?l3 ?c3 ?k3 ?a4 ?l4 ?c4 ?k4 ?a5 ?l5 ?c5 ?k5 ?a6 ?l6 ?c6 ?k6 ?a7 ?l7 ?c7 ?k7 ?a8 ?l8 ?c8 ?k8 ?a9 ?l9 ?c9 ?k9 ?a10 ?l10 ?c10 ?k10 ?a11 ?l11 ?c11 ?k11 ?a12 ?l12 ?c12 ?k12 ?a13 ?l13 ?c13 ?k13 ?a14 ?l14 ?c14 ?k14 ?a15 ?l15 ?c15 ?k15 ?a16 ?l16 ?c16 ?k16 ?a17 ?l17 ?c17 ?k17 ?a18 ?l18 ?c18 ?k18 ?a19 ?l19 ?c19 ?k19 ?a20 ?l20 ?c20 ?k20 ?zall ?zany ?zbool ?zdict ?zint ?zisinstance ?zlen ?zlist ?zmin ?zrange ?zrepr ?zset ?zstr ?ztuple ?yMOST_STATES ?yLONGEST_WAIT ?ySTEP_WORDS ?xSTEP_WORDS ?yENDS ?xENDS
    (case a1 => k_is)
    (case l1 => k_is)
    (case c1 => k_is)
    (case k1 => k_is)
    (case a2 => k_is)
    (case l2 => k_is)
    (case c2 => k_is)
    (case k2 => k_is)
    (case a3 => k_is)
    (case l3 => k_is)
    (case c3 => k_is)
    (case k3 => k_is)
    (case a4 => k_is)
    (case l4 => k_is)
    (case c4 => k_is)
    (case k4 => k_is)
    (case a5 => k_is)
    (case l5 => k_is)
    (case c5 => k_is)
    (case k5 => k_is)
    (case a6 => k_is)
    (case l6 => k_is)
    (case c6 => k_is)
    (case k6 => k_is)
    (case a7 => k_is)
    (case l7 => k_is)
    (case c7 => k_is)
    (case k7 => k_is)
    (case a8 => k_is)
    (case l8 => k_is)
    (case c8 => k_is)
    (case k8 => k_is)
    (case a9 => k_is)
    (case l9 => k_is)
    (case c9 => k_is)
    (case k9 => k_is)
    (case a10 => k_is)
    (case l10 => k_is)
    (case c10 => k_is)
    (case k10 => k_is)
    (case a11 => k_is)
    (case l11 => k_is)
    (case c11 => k_is)
    (case k11 => k_is)
    (case a12 => k_is)
    (case l12 => k_is)
    (case c12 => k_is)
    (case k12 => k_is)
    (case a13 => k_is)
    (case l13 => k_is)
    (case c13 => k_is)
    (case k13 => k_is)
    (case a14 => k_is)
    (case l14 => k_is)
    (case c14 => k_is)
    (case k14 => k_is)
    (case a15 => k_is)
    (case l15 => k_is)
    (case c15 => k_is)
    (case k15 => k_is)
    (case a16 => k_is)
    (case l16 => k_is)
    (case c16 => k_is)
    (case k16 => k_is)
    (case a17 => k_is)
    (case l17 => k_is)
    (case c17 => k_is)
    (case k17 => k_is)
    (case a18 => k_is)
    (case l18 => k_is)
    (case c18 => k_is)
    (case k18 => k_is)
    (case a19 => k_is)
    (case l19 => k_is)
    (case c19 => k_is)
    (case k19 => k_is)
    (case a20 => k_is)
    (case l20 => k_is)
    (case c20 => k_is)
    (case k20 => k_is)
    (case zall => k_is)
    (case zany => k_is)
    (case zbool => k_is)
    (case zdict => k_is)
    (case zint => k_is)
    (case zisinstance => k_is)
    (case zlen => k_is)
    (case zlist => k_is)
    (case zmin => k_is)
    (case zrange => k_is)
    (case zrepr => k_is)
    (case zset => k_is)
    (case zstr => k_is)
    (case ztuple => k_is)
    (case yMOST_STATES => k_is)
    (case yLONGEST_WAIT => k_is)
    (case ySTEP_WORDS => k_is)
    (case xSTEP_WORDS => k_is)
    (case yENDS => k_is)
    (case xENDS => k_is)
