import PyProof.Rows.All
import Wide.All
import OpenK.AllK
import Wide.FinOn
import HandS.ForMost
import HandS.Flow
import HandS.Conv
import HandS.More
import HandS.Codes
import KE.DataEq
import HandS.Walk
import PySem.Challenge.RW_strokeguess_k02_parts_and_wishes
set_option Elab.async false
set_option maxRecDepth 100000
set_option linter.all false
/-! Strokeguess: what all our proofs share: a def's contract as one fact (Cl), frames (Fr), new objects. -/
namespace SG
open PySem PySem.Spec PyProof.Rows L2

/-! ### a def of the module, by its contract -/
structure Cl (P : Program) (w : World) (K : PySem.W.Frag) (mg : Str → Option Value) (base : Heap) (k : Nat) (x : Str) (sp : Sp) : Prop where
  ex : ∃ (f : Addr) (fd : FuncData) (ps : List Str), FnOk P w K mg base CX0 k f fd ps sp ∧ mg x = some (.ref f) ∧ PySem.W.keepIn K (.ref f) = true ∧ Binds K fd ps []
/-- a def as the top has left it -/
structure Df (K : PySem.W.Frag) (mg : Str → Option Value) (x : Str) (st : Stmt) (ps : List Str) : Prop where
  ex : ∃ (f : Addr) (fd : FuncData), Fun K x x st f fd ∧ mg x = some (.ref f) ∧ Binds K fd ps []
section
variable {P : Program} {w : World} {K : PySem.W.Frag} {mg : Str → Option Value} {base : Heap}
theorem Cl.mono {j k : Nat} {x : Str} {sp : Sp} (c : Cl P w K mg base j x sp) (h : j ≤ k) : Cl P w K mg base k x sp := by
  obtain ⟨f, fd, ps, F, m, kp, b⟩ := c.ex
  exact ⟨f, fd, ps, F.mono h, m, kp, b⟩
theorem Cl.imp {k : Nat} {x : Str} {sp sp' : Sp} (c : Cl P w K mg base k x sp) (h : ∀ vs H Q E, sp' vs H Q E → sp vs H Q E) : Cl P w K mg base k x sp' := by
  obtain ⟨f, fd, ps, F, m, kp, b⟩ := c.ex
  exact ⟨f, fd, ps, F.imp h, m, kp, b⟩
theorem Df.ok {x : Str} {st : Stmt} {N ps : List Str} {k : Nat} {sp : Sp} (D : Df K mg x st ps) (S : FnScope N ps (defScope st)) (len : ∀ vs H Q E, sp vs H Q E → vs.length = ps.length)
    (hbody : ∀ (f : Addr) (cdv : Value) (A : Around) (outer : List Env) (s : Shared) (H : Hp) (vs : List V) (Q : VK) (E : XK), Room k (A.deeper (envOfC x (defScope st) s.heap.objs.size f cdv)) → sp vs H Q E →
      ∃ t, PSs (cxOf CX0 P w K mg base N x (defScope st) f cdv A outer s H E).nox (defBody st) t ∧ t { nx := fun _ H' => Q .non H', rt := Q } (start N vs) H) : Cl P w K mg base (k + 1) x sp := by
  obtain ⟨f, fd, F, m, b⟩ := D.ex
  exact ⟨f, fd, ps, F.ok S len (fun cdv A outer s H vs Q E hr h => hbody f cdv A outer s H vs Q E hr h), m, F.kp, b⟩
/-- no call left: nothing can be asked -/
theorem Df.none {x : Str} {st : Stmt} {ps : List Str} {sp : Sp} (D : Df K mg x st ps) (no : ∀ vs H Q E, ¬ sp vs H Q E) : Cl P w K mg base 0 x sp := by
  obtain ⟨f, fd, F, m, b⟩ := D.ex
  exact ⟨f, fd, ps, ⟨fun vs H Q E h => absurd h (no vs H Q E), fun A outer s H args us vs Q E _ _ _ _ h => absurd h (no vs H Q E)⟩, m, F.kp, b⟩
end
section
variable {X : Cx} {k : Nat} {x : Str} {sp : Sp} {e : Expr} {es : List Expr} {t : TA} {p pos : Pos}
theorem pe_cl (c : Cl X.prog X.w X.K X.mg X.base k x sp) (hr : Room k X.A) (hg : Gl X x) (ha : PA X (e :: es) t)
    (hdb : (x == ("__debug__" : Str)) = false := by decide) (he : starEach (e :: es) X.env = (false, eval e X.env) :: starEach es X.env := by rfl) (hpl : (backTo pos (starEach es X.env)).any (·.1) = false := by rfl) :
    PE X (.Call (.Name x p) (e :: es) [] pos) (tCall sp [] E0 t) := by
  obtain ⟨f, fd, ps, F, hm, kp, b⟩ := c.ex
  exact pe_call F hr hg hm kp b .nil pass0 ha hdb he hpl
end
/-! ### heaps -/
/-- all but the objects of S are as they were -/
def Fr (S : List Addr) (H H' : Hp) : Prop := ∀ b o, H b = some o → b ∉ S → H' b = some o
/-- tuples never change -/
def Tp (H H' : Hp) : Prop := ∀ b xs, H b = some (.tup xs) → H' b = some (.tup xs)
theorem Fr.refl (S : List Addr) (H : Hp) : Fr S H H := fun _ _ h _ => h
theorem Fr.trans {S : List Addr} {H H1 H2 : Hp} (a : Fr S H H1) (b : Fr S H1 H2) : Fr S H H2 := fun c o h n => b c o (a c o h n) n
theorem Fr.mono {S S' : List Addr} {H H1 : Hp} (a : Fr S H H1) (h : ∀ x ∈ S, x ∈ S') : Fr S' H H1 := fun c o e n => a c o e fun m => n (h c m)
theorem Fr.new {S : List Addr} {H : Hp} {p : Addr} {o : HO} (h : H p = none) : Fr S H (upd H p o) := fun b u e _ => by
  rw [upd_ne (ne_of_none e h)]
  exact e
theorem Fr.put {S : List Addr} {H : Hp} {p : Addr} {o : HO} (h : p ∈ S) : Fr S H (upd H p o) := fun b u e n => by
  rw [upd_ne (fun z => n (by rw [z]; exact h))]
  exact e
theorem Fr.same {H H' : Hp} (h : Same H H') (S : List Addr) : Fr S H H' := fun b o e _ => h b o e
theorem Fr.nil {H H' : Hp} (h : Fr [] H H') : Same H H' := fun b o e => h b o e (by simp)
theorem Tp.refl (H : Hp) : Tp H H := fun _ _ h => h
theorem Tp.trans {H H1 H2 : Hp} (a : Tp H H1) (b : Tp H1 H2) : Tp H H2 := fun c o h => b c o (a c o h)
theorem Tp.new {H : Hp} {p : Addr} {o : HO} (h : H p = none) : Tp H (upd H p o) := fun b u e => by
  rw [upd_ne (ne_of_none e h)]
  exact e
theorem Tp.same {H H' : Hp} (h : Same H H') : Tp H H' := fun b _ e => h b _ e
theorem same_new {H : Hp} {p : Addr} {o : HO} (h : H p = none) : Same H (upd H p o) := fun b u e => by
  rw [upd_ne (ne_of_none e h)]
  exact e
/-- a new object, told by what is known of it -/
theorem alloc {H : Hp} {o : HO} {Q : Addr → Hp → Prop} (k : ∀ p H', H p = none → H' p = some o → Same H H' → (∀ q, q ≠ p → H' q = H q) → Q p H') : ∀ p, H p = none → Q p (upd H p o) :=
  fun p hp => k p _ hp upd_same (same_new hp) fun _ h => upd_ne h
theorem Same.tup {K : PySem.W.Frag} {H H' : Hp} {a : Addr} {xs : List V} (e : Same H H') (h : SqT K H a xs) : SqT K H' a xs := by
  rcases h with (h | ⟨o, h⟩) | h
  · exact .inl (.inl (e _ _ h))
  · exact .inl (.inr ⟨o, e _ _ h⟩)
  · exact .inr h
end SG
namespace SG
open PySem PySem.Spec PyProof.Rows L2
section
variable {X : Cx}
/-- == and != of data without dicts, any texts -/
def rEqP (K : PySem.W.Frag) : R2 := fun x y H Q => ∃ d e, Dp K H x d ∧ Dp K H y e ∧ PyData.plain d = true ∧ PyData.plain e = true ∧ min d.depth e.depth ≤ 64 ∧ Q (.bl (PyData.eqv d e)) H
def rNeP (K : PySem.W.Frag) : R2 := fun x y H Q => ∃ d e, Dp K H x d ∧ Dp K H y e ∧ PyData.plain d = true ∧ PyData.plain e = true ∧ min d.depth e.depth ≤ 64 ∧ Q (.bl (!PyData.eqv d e)) H
theorem op_eqP (hu : X.A.units + 64 < cLine) : OpR X (compareOp .Eq) (rEqP X.K) := by
  intro pins s σ H x y v u Q I rx ry h
  obtain ⟨d, e, hd, he, sd, se, hm, q⟩ := h
  obtain ⟨as, r1⟩ := Dp.reads I d x v hd rx
  obtain ⟨bs, r2⟩ := Dp.reads I e y u he ry
  exact SeqAt.eq_plain r1 r2 sd se (by omega) ⟨.bl _, H, I, rfl, q⟩
theorem op_neP (hu : X.A.units + 64 < cLine) : OpR X (compareOp .NotEq) (rNeP X.K) := by
  intro pins s σ H x y v u Q I rx ry h
  obtain ⟨d, e, hd, he, sd, se, hm, q⟩ := h
  obtain ⟨as, r1⟩ := Dp.reads I d x v hd rx
  obtain ⟨bs, r2⟩ := Dp.reads I e y u he ry
  exact SeqAt.ne_plain r1 r2 sd se (by omega) ⟨.bl _, H, I, rfl, q⟩
end
/-! ### powers of any base -/
def CPowG (i j : Int) : Prop := 0 ≤ j ∧ (Builtin.Int.intBits i : Int) * j ≤ 2 ^ 27
theorem op_powG {X : Cx} : OpR X (binaryOp .Pow) (rI CPowG fun i j => .int (i ^ j.toNat)) := opI fun _ _ _ _ _ _ _ hc q => pow_int hc.1 hc.2 q
/-! ### data made of tuples alone: it never changes -/
mutual
inductive Im (H : Hp) : V → PyData → Prop
  | non : Im H .non .none
  | bl (b : Bool) : Im H (.bl b) (.bool b)
  | int (i : Int) : Im H (.int i) (.int i)
  | str (x : Str) : Im H (.str x) (.str x)
  | tup {a : Addr} {xs : List V} {ds : List PyData} : H a = some (.tup xs) → ImAll H xs ds → Im H (.ref a) (.tuple ds)
inductive ImAll (H : Hp) : List V → List PyData → Prop
  | nil : ImAll H [] []
  | cons {v : V} {vs : List V} {d : PyData} {ds : List PyData} : Im H v d → ImAll H vs ds → ImAll H (v :: vs) (d :: ds)
end
mutual
theorem Im.dp {K : PySem.W.Frag} {H : Hp} : ∀ {d : PyData} {v : V}, Im H v d → Dp K H v d
  | .none, _, h => by cases h; exact .non
  | .bool _, _, h => by cases h; exact .bl _
  | .int _, _, h => by cases h; exact .int _
  | .str _, _, h => by cases h; exact .str _
  | .tuple _, _, h => by
    cases h with
    | tup a b => exact .tup (SqT.of a) (ImAll.dp b)
  | .list _, _, h => by cases h
  | .dict _, _, h => by cases h
theorem ImAll.dp {K : PySem.W.Frag} {H : Hp} : ∀ {ds : List PyData} {vs : List V}, ImAll H vs ds → DpAll K H vs ds
  | [], _, h => by cases h; exact .nil
  | _ :: _, _, h => by
    cases h with
    | cons a b => exact .cons (Im.dp a) (ImAll.dp b)
end
mutual
theorem Im.tp {H H' : Hp} (t : Tp H H') : ∀ {d : PyData} {v : V}, Im H v d → Im H' v d
  | .none, _, h => by cases h; exact .non
  | .bool _, _, h => by cases h; exact .bl _
  | .int _, _, h => by cases h; exact .int _
  | .str _, _, h => by cases h; exact .str _
  | .tuple _, _, h => by
    cases h with
    | tup a b => exact .tup (t _ _ a) (ImAll.tp t b)
  | .list _, _, h => by cases h
  | .dict _, _, h => by cases h
theorem ImAll.tp {H H' : Hp} (t : Tp H H') : ∀ {ds : List PyData} {vs : List V}, ImAll H vs ds → ImAll H' vs ds
  | [], _, h => by cases h; exact .nil
  | _ :: _, _, h => by
    cases h with
    | cons a b => exact .cons (Im.tp t a) (ImAll.tp t b)
end
theorem Im.plain {H : Hp} : ∀ {d : PyData} {v : V}, Im H v d → d.plain = true := by
  intro d v h
  induction h using Im.rec (motive_2 := fun vs ds _ => PyData.plainAll ds = true) with
  | non => rfl
  | bl => rfl
  | int => rfl
  | str => rfl
  | tup _ _ ih => exact ih
  | nil => rfl
  | cons _ _ a b =>
    show (PyData.plain _ && PyData.plainAll _) = true
    rw [a, b]; rfl
end SG
namespace SG
open PySem PySem.Spec PyProof.Rows L2
theorem upd_is {H H' : Hp} {p : Addr} {o : HO} (e : upd H p o = H') : H' p = some o := by
  rw [← e]
  exact upd_same
theorem same_is {H H' : Hp} {p : Addr} {o : HO} (e : upd H p o = H') (h : H p = none) : Same H H' := by
  rw [← e]
  exact same_new h
end SG
namespace SG
open PySem PySem.Spec PyProof.Rows L2
section
variable {X : Cx}
/-- != of any list and an empty one -/
def rNeNil (K : PySem.W.Frag) : R2 := fun x y H Q => ∃ (a b : Addr) (xs : List V), x = .ref a ∧ y = .ref b ∧ SqL K H a xs ∧ SqL K H b [] ∧ Q (.bl (!xs.isEmpty)) H
theorem op_neNil (hu : X.A.units + 64 < cLine) : OpR X (compareOp .NotEq) (rNeNil X.K) := by
  intro pins s σ H x y v u Q I rx ry h
  obtain ⟨a, b, xs, rfl, rfl, ha, hb, q⟩ := h
  cases (show v = Value.ref a from rx)
  cases (show u = Value.ref b from ry)
  obtain ⟨us, r1, p1, _⟩ := I.list ha
  obtain ⟨ws, r2, p2, _⟩ := I.list hb
  have e2 : ws = [] := by cases r2; rfl
  subst e2
  have hu' : X.A.units < cLine := by omega
  cases xs with
  | nil =>
    have e1 : us = [] := by cases r1; rfl
    subst e1
    have z := SeqAt.RcNeAt.lists (A := X.A) (s := s) (e := fun _ => true) p1.isList p2.isList rfl hu' (fun j j1 _ => absurd j1 (Nat.not_lt_zero j))
    exact z X.prog X.w _ _ ⟨.bl false, H, I, rfl, q⟩
  | cons x r =>
    have hsz : ¬ us.toArray.size = ([] : List Value).toArray.size := by
      cases r1 with
      | cons => simp
    have z := SeqAt.RcNeAt.lists_lengths (A := X.A) (s := s) p1.isList p2.isList (by simpa using hsz) hu'
    exact z X.prog X.w _ _ ⟨.bl true, H, I, rfl, q⟩
end
end SG
namespace SG
open PySem PySem.Spec PyProof.Rows L2
def top (i : Nat) : Stmt := PySem.Challenge.pw_strokeguess_k02_parts_and_wishes.main.body.getD i (.Pass ⟨0, 0, 0, 0⟩)

structure Txt (K : PySem.W.Frag) (mg : Str → Option Value) : Prop where
  m_len : mg "len" = none
  m_list : mg "list" = none
  m_range : mg "range" = none
  m_tuple : mg "tuple" = none
  mNAMEx : ∃ t, mg "NAME" = some (.int 0 t)
  mPARTSx : ∃ t, mg "PARTS" = some (.int 5 t)
abbrev sparts_of : Stmt := top 3
abbrev Nparts_of : List Str := ["scene", "part"]
theorem scparts_of : FnScope Nparts_of ["scene"] (defScope sparts_of) := ⟨rfl, rfl, rfl, by decide +kernel, rfl, by decide +kernel, by decide +kernel⟩

abbrev swishes_of : Stmt := top 4
abbrev Nwishes_of : List Str := ["scene", "found", "name", "_", "wishes", "wish"]
theorem scwishes_of : FnScope Nwishes_of ["scene"] (defScope swishes_of) := ⟨rfl, rfl, rfl, by decide +kernel, rfl, by decide +kernel, by decide +kernel⟩

abbrev s_with_inner : Stmt := top 5
abbrev N_with_inner : List Str := ["part", "found", "inner"]
theorem sc_with_inner : FnScope N_with_inner ["part"] (defScope s_with_inner) := ⟨rfl, rfl, rfl, by decide +kernel, rfl, by decide +kernel, by decide +kernel⟩

abbrev s_law_tape : Stmt := top 7
abbrev N_law_tape : List Str := ["_law_script"]
theorem sc_law_tape : FnScope N_law_tape ["_law_script"] (defScope s_law_tape) := ⟨rfl, rfl, rfl, by decide +kernel, rfl, by decide +kernel, by decide +kernel⟩

abbrev s_law_draw : Stmt := top 8
abbrev N_law_draw : List Str := ["_law_tape_here", "_law_many", "_law_found", "_law_spot", "_law_cells", "_law_cell", "_law_great", "_law_primes", "_law_prime", "_law_seed"]
theorem sc_law_draw : FnScope N_law_draw ["_law_tape_here", "_law_many"] (defScope s_law_draw) := ⟨rfl, rfl, rfl, by decide +kernel, rfl, by decide +kernel, by decide +kernel⟩

abbrev s_law_words : Stmt := top 9
abbrev N_law_words : List Str := ["_law_tape_here", "_law_many", "_law_letters", "_law_own", "_law_k", "_law_base", "_law_found", "_law_letter", "_law_some", "_law_word", "_law_more"]
theorem sc_law_words : FnScope N_law_words ["_law_tape_here", "_law_many"] (defScope s_law_words) := ⟨rfl, rfl, rfl, by decide +kernel, rfl, by decide +kernel, by decide +kernel⟩

abbrev s_law_machine : Stmt := top 10
abbrev N_law_machine : List Str := ["_law_tape_here", "_law_many", "_law_states", "_law_k", "_law_ends", "_law_steps", "_law_word", "_law_wait", "_law_later"]
theorem sc_law_machine : FnScope N_law_machine ["_law_tape_here"] (defScope s_law_machine) := ⟨rfl, rfl, rfl, by decide +kernel, rfl, by decide +kernel, by decide +kernel⟩

abbrev s_law_wish : Stmt := top 11
abbrev N_law_wish : List Str := ["_law_tape_here", "_law_label", "_law_wait", "_law_some", "_law_kind"]
theorem sc_law_wish : FnScope N_law_wish ["_law_tape_here", "_law_label"] (defScope s_law_wish) := ⟨rfl, rfl, rfl, by decide +kernel, rfl, by decide +kernel, by decide +kernel⟩

abbrev s_law_part : Stmt := top 12
abbrev N_law_part : List Str := ["_law_tape_here", "_law_box", "_law_room", "_law_name", "_law_ear", "_law_shelf", "_law_wishes", "_law_k", "_law_parts", "_law_left", "_law_top"]
theorem sc_law_part : FnScope N_law_part ["_law_tape_here", "_law_box", "_law_room"] (defScope s_law_part) := ⟨rfl, rfl, rfl, by decide +kernel, rfl, by decide +kernel, by decide +kernel⟩

abbrev s_law_pairs : Stmt := top 13
abbrev N_law_pairs : List Str := ["_law_tape_here", "_law_labels", "_law_turn", "_law_order", "_law_beside", "_law_heeds", "_law_k", "_law_other", "_law_way"]
theorem sc_law_pairs : FnScope N_law_pairs ["_law_tape_here", "_law_labels"] (defScope s_law_pairs) := ⟨rfl, rfl, rfl, by decide +kernel, rfl, by decide +kernel, by decide +kernel⟩

abbrev s_law_scene : Stmt := top 14
abbrev N_law_scene : List Str := ["_law_tape_here", "_law_many", "_law_labels", "_law_words_here", "_law_room", "_law_wide", "_law_part_here", "_law_used", "_law_beside", "_law_heeds", "_law_label"]
theorem sc_law_scene : FnScope N_law_scene ["_law_tape_here", "_law_many", "_law_labels"] (defScope s_law_scene) := ⟨rfl, rfl, rfl, by decide +kernel, rfl, by decide +kernel, by decide +kernel⟩

abbrev s_law_flat : Stmt := top 15
abbrev N_law_flat : List Str := ["_law_scene_here", "_law_spots", "_law_left", "_law_found", "_law_part_here", "_law_x", "_law_y", "_law_about", "_law_one"]
theorem sc_law_flat : FnScope N_law_flat ["_law_scene_here", "_law_spots"] (defScope s_law_flat) := ⟨rfl, rfl, rfl, by decide +kernel, rfl, by decide +kernel, by decide +kernel⟩

abbrev slaw : Stmt := top 16
abbrev Nlaw : List Str := ["_law_script", "_law_tape_here", "_law_turn", "_law_scene_here", "_law_flat_here", "_law_names", "_law_wishes", "_law_part_here", "_law_left", "_law_top", "_law_about", "_law_again", "_law_found", "_law_one", "_law_wish_here"]
theorem sclaw : FnScope Nlaw ["_law_script"] (defScope slaw) := ⟨rfl, rfl, rfl, by decide +kernel, rfl, by decide +kernel, by decide +kernel⟩

end SG
namespace SG
open PySem PySem.Spec PyProof.Rows L2
/-! ### the tape -/
def tapeD (c : Addr) (s l : Int) : List (Key × V) := [(Sum.inr "cells", .ref c), (Sum.inr "spot", .int s), (Sum.inr "left", .int l)]
theorem k12 : ¬ (Sum.inr ("cells" : Str) : Key) = Sum.inr ("spot" : Str) := by decide +kernel
theorem k13 : ¬ (Sum.inr ("cells" : Str) : Key) = Sum.inr ("left" : Str) := by decide +kernel
theorem k23 : ¬ (Sum.inr ("spot" : Str) : Key) = Sum.inr ("left" : Str) := by decide +kernel
theorem k32 : ¬ (Sum.inr ("left" : Str) : Key) = Sum.inr ("spot" : Str) := by decide +kernel
theorem n12 : ¬ ("cells" : Str) = ("spot" : Str) := by decide +kernel
theorem n13 : ¬ ("cells" : Str) = ("left" : Str) := by decide +kernel
theorem n23 : ¬ ("spot" : Str) = ("left" : Str) := by decide +kernel
theorem n32 : ¬ ("left" : Str) = ("spot" : Str) := by decide +kernel
theorem len3 {c : Addr} {s l : Int} : (tapeD c s l).length < sizeLine := by show 3 < sizeLine; decide
/-- a tape stands at t, of which at most n cells were taken -/
def TapeAt (H : Hp) (t c : Addr) (n : Nat) : Prop :=
  ∃ (cs : List Int) (s l : Int), H t = some (.dK (tapeD c s l)) ∧ H c = some (.lst (cs.map V.int)) ∧ 0 ≤ s ∧ s ≤ (n : Int) ∧ 0 ≤ l ∧ cs.length ≤ 63
section
variable {K : PySem.W.Frag} {H H' : Hp} {t c : Addr} {s l v : Int} {n m : Nat}
theorem tape_cells (h : H t = some (.dK (tapeD c s l))) : DGet H t (.str "cells") (some (.ref c)) := DGet.k (k := Sum.inr "cells") h
theorem tape_spot (h : H t = some (.dK (tapeD c s l))) : DGet H t (.str "spot") (some (.int s)) := by
  have e : valV (tapeD c s l) (Sum.inr ("spot" : Str) : Key) = some (.int s) := by
    unfold tapeD
    rw [valV_neg k12, valV_pos rfl]
  have q := DGet.k (k := Sum.inr "spot") h
  rw [e] at q
  exact q
theorem tape_left (h : H t = some (.dK (tapeD c s l))) : DGet H t (.str "left") (some (.int l)) := by
  have e : valV (tapeD c s l) (Sum.inr ("left" : Str) : Key) = some (.int l) := by
    unfold tapeD
    rw [valV_neg k13, valV_neg k23, valV_pos rfl]
  have q := DGet.k (k := Sum.inr "left") h
  rw [e] at q
  exact q
theorem key_ne {a b : Str} (h : ¬ a = b) : ¬ (Sum.inr a : Key) = Sum.inr b := fun e => h (Sum.inr.inj e)
theorem tape_put_left (h : H t = some (.dK (tapeD c s l))) : DPut H t (.str "left") (.int v) (upd H t (.dK (tapeD c s v))) := by
  have e : putK (tapeD c s l) (Sum.inr ("left" : Str) : Key) (.int v) = tapeD c s v := by
    simp [putK, tapeD, n13, n23]
  have q := DPut.k (k := Sum.inr "left") (v := .int v) h len3
  rw [e] at q
  exact q
theorem tape_put_spot (h : H t = some (.dK (tapeD c s l))) : DPut H t (.str "spot") (.int v) (upd H t (.dK (tapeD c v l))) := by
  have e : putK (tapeD c s l) (Sum.inr ("spot" : Str) : Key) (.int v) = tapeD c v l := by
    simp [putK, tapeD, n12, n32]
  have q := DPut.k (k := Sum.inr "spot") (v := .int v) h len3
  rw [e] at q
  exact q
/-- a list is no dict: it stays where only a dict changes -/
theorem sq_ne {xs : List V} {kvs : List (Key × V)} (hc : SqL K H c xs) (ht : H t = some (.dK kvs)) (f : Fr [t] H H') : SqL K H' c xs := by
  rcases hc with (h | ⟨o, h⟩) | h
  · exact .inl (.inl (f _ _ h (by simp only [List.mem_singleton]; exact ne_of h ht (by intro z; cases z))))
  · exact .inl (.inr ⟨o, f _ _ h (by simp only [List.mem_singleton]; exact ne_of h ht (by intro z; cases z))⟩)
  · exact .inr h
theorem TapeAt.mono (h : TapeAt H t c n) (q : n ≤ m) : TapeAt H t c m := by
  obtain ⟨cs, s, l, h1, h2, h3, h4, h5, h6⟩ := h
  exact ⟨cs, s, l, h1, h2, h3, by omega, h5, h6⟩
theorem TapeAt.same (h : TapeAt H t c n) (q : Same H H') : TapeAt H' t c n := by
  obtain ⟨cs, s, l, h1, h2, h3, h4, h5, h6⟩ := h
  exact ⟨cs, s, l, q _ _ h1, q _ _ h2, h3, h4, h5, h6⟩
theorem TapeAt.tp (h : TapeAt H t c n) (q : Fr [t] H H') : Tp H H' := fun b xs e => by
  obtain ⟨cs, s, l, h1, h2, h3, h4, h5, h6⟩ := h
  exact q _ _ e (by simp only [List.mem_singleton]; exact ne_of e h1 (by intro z; cases z))
theorem TapeAt.is (h : TapeAt H t c n) : ∃ kvs, H t = some (.dK kvs) := by
  obtain ⟨cs, s, l, h1, _⟩ := h
  exact ⟨_, h1⟩
theorem at_of' {α : Type} {xs : List α} {z : Int} {j : Nat} {v : α} (e : z = (j : Int)) (h : xs[j]? = some v) : atI xs z = some v := by
  rw [e]
  exact atI_nat h
theorem at_in {α : Type} {xs : List α} {i : Int} (h0 : 0 ≤ i) (h1 : i < xs.length) : ∃ x, x ∈ xs ∧ atI xs i = some x := by
  have hk : i.toNat < xs.length := by omega
  refine ⟨xs[i.toNat], List.getElem_mem hk, ?_⟩
  exact at_of' (j := i.toNat) (by omega) (List.getElem?_eq_getElem hk)
theorem at_ints {cs : List Int} {i : Int} (h0 : 0 ≤ i) (h1 : i < cs.length) : ∃ z, atI (cs.map V.int) i = some (.int z) := by
  obtain ⟨x, hx, e⟩ := at_in (xs := cs.map V.int) h0 (by rw [List.length_map]; exact h1)
  obtain ⟨z, _, rfl⟩ := List.mem_map.mp hx
  exact ⟨z, e⟩
/-- cells or [0] -/
theorem or_new {σ : L2.St} {Q : VK} {cs : List Int} (hS : SqL K H c (cs.map V.int)) (hl : cs.length ≤ 63)
    (k : ∀ c' cs' H', Same H H' → 0 < cs'.length → cs'.length ≤ 63 → SqL K H' c' (List.map V.int cs') → Q (.ref c') H') :
    ∃ b, TruV K (.ref c) H b ∧ if b = true then Q (.ref c) H else tLst (tCons (tC (.int 0)) tNil) σ H Q := by
  refine ⟨_, Or.inl ⟨_, hS, rfl⟩, ?_⟩
  cases cs with
  | nil =>
    refine iteF ?_
    refine ⟨(by show 1 ≤ sizeLine; decide), fun p hp => ?_⟩
    exact k p [0] _ (same_new hp) (by decide) (by decide) (SqL.of upd_same)
  | cons z r =>
    refine iteT ?_
    exact k c (z :: r) H (Same.refl H) (by simp) hl hS
end
/-! ### a draw -/
def spDraw : Sp := fun vs H Q _ => ∃ (t c : Addr) (m : Int) (n : Nat), vs = [.ref t, .int m] ∧ TapeAt H t c n ∧ (1 ≤ m ∧ m ≤ 1000000) ∧ n ≤ 1000000000 ∧
  ∀ (r : Int) (H' : Hp), (0 ≤ r ∧ r < m) → TapeAt H' t c (n + 1) → Fr [t] H H' → Q (.int r) H'
def spNone : Sp := fun _ _ _ _ => False
theorem pw18 : CPowG 10 18 := ⟨by decide, by decide +kernel⟩
theorem pw6e : (10 : Int) ^ (6 : Int).toNat = 1000000 := by decide
theorem pw6 : CPowG 10 6 := ⟨by decide, by decide +kernel⟩
theorem pw50 : CPowG 10 50 := ⟨by decide, by decide +kernel⟩
theorem pw60 : CPowG (10 ^ (50 : Int).toNat) 60 := ⟨by decide, by decide +kernel⟩
theorem pw10 : CPowG ((10 ^ (50 : Int).toNat) ^ (60 : Int).toNat) 10 := ⟨by decide, by decide +kernel⟩
def primes : List Int := [2147483647, 2147483629, 2147483587, 2147483579, 2147483563, 2147483549, 2147483543]
theorem prime_at {i : Int} (h0 : 0 ≤ i) (h1 : i < 7) : ∃ q : Int, atI (primes.map V.int) i = some (.int q) ∧ 1000000000 ≤ q ∧ q ≤ 2147483647 := by
  have hk : i.toNat < 7 := by omega
  have e : i = ((i.toNat : Nat) : Int) := by omega
  rw [e]
  generalize i.toNat = j at *
  match j, hk with
  | 0, _ => exact ⟨_, atI_nat rfl, by decide, by decide⟩
  | 1, _ => exact ⟨_, atI_nat rfl, by decide, by decide⟩
  | 2, _ => exact ⟨_, atI_nat rfl, by decide, by decide⟩
  | 3, _ => exact ⟨_, atI_nat rfl, by decide, by decide⟩
  | 4, _ => exact ⟨_, atI_nat rfl, by decide, by decide⟩
  | 5, _ => exact ⟨_, atI_nat rfl, by decide, by decide⟩
  | 6, _ => exact ⟨_, atI_nat rfl, by decide, by decide⟩
  | j + 7, h => exact absurd h (by omega)
theorem big_pos : (0 : Int) < ((10 ^ (50 : Int).toNat) ^ (60 : Int).toNat) ^ (10 : Int).toNat := Int.pow_pos (Int.pow_pos (Int.pow_pos (by decide)))
section
variable {P : Program} {w : World} {K : PySem.W.Frag} {mg : Str → Option Value} {base : Heap}
theorem ok_draw (D : Df K mg "_law_draw" s_law_draw ["_law_tape_here", "_law_many"]) (T : Txt K mg) : Cl P w K mg base 1 "_law_draw" spDraw := by
  have c_law_draw : Cl P w K mg base 0 "_law_draw" spNone := D.none fun _ _ _ _ h => h
  refine D.ok sc_law_draw (fun vs H Q E h => ?_) (fun f cdv A outer s H vs Q E hr h => ?_)
  · obtain ⟨t, c, m, n, rfl, _⟩ := h
    rfl
  obtain ⟨t, c, m, n, rfl, ⟨cs, s, l, ht, hcl, s0, sn, l0, h63⟩, ⟨m1, m6⟩, hn, k⟩ := h
  have hu := hu_of hr
  have hc : SqL K H c (cs.map V.int) := SqL.of hcl
  have ctn : c ∉ [t] := by simp only [List.mem_singleton]; exact ne_of hcl ht (by intro z; cases z)
  refine ⟨_, -- if _law_tape_here['left'] > 0:
    (pss_cons (ps_if (pt_cmpR op_gt (pe_dget hu (pv 0) pe_str (fun _ _ => rfl)) pe_int (nomark _))
      (pss_cons (ps_set (i := 2) sc_law_draw.nd rfl (Or.inl rfl) (pe_op op_mod (pe_dget hu (pv 0) pe_str (fun _ _ => rfl)) (pv 1)))
      (pss_cons (ps_dput hu (pv 0) pe_str (pe_op op_fdiv (pe_dget hu (pv 0) pe_str (fun _ _ => rfl)) (pv 1)) rfl)
      (pss_one (ps_ret (pv 2)))))
      pss_nil)
    (pss_cons (ps_set (i := 3) sc_law_draw.nd rfl (Or.inl rfl) (pe_dget hu (pv 0) pe_str (fun _ _ => rfl)))
    (pss_cons (ps_dput hu (pv 0) pe_str (pe_op op_add (pv 3) pe_int) rfl)
    (pss_cons (ps_set (i := 4) sc_law_draw.nd rfl (Or.inl rfl) (pe_orT (pe_dget hu (pv 0) pe_str (fun _ _ => rfl)) (pe_one (pe_lst (pa_cons pe_int pa_nil)))))
    (pss_cons (ps_set (i := 5) sc_law_draw.nd rfl (Or.inl rfl) (pe_ix ix_list (pv 4) (pe_op op_mod (pv 3) (pe_callB call_len_seq (by rfl) T.m_len PySem.boot_len (pa_cons (pv 4) pa_nil))) (fun _ _ => rfl)))
    (C8.pss_cut (ps_if (PW.pt (pw_and (pt_cmpR op_ge (pv 5) (pe_op op_powG pe_int pe_int) (nomark _)) (pw_and1 (pt_cmpR op_lt (pv 3) (pe_callB call_len_seq (by rfl) T.m_len PySem.boot_len (pa_cons (pv 4) pa_nil)) (nomark _)))))
      (pss_cons (ps_set (i := 6) sc_law_draw.nd rfl (Or.inl rfl) (pe_op op_mod (pe_op op_sub (pv 5) (pe_op op_powG pe_int pe_int)) (pe_op op_powG (pe_op op_powG (pe_op op_powG pe_int pe_int) pe_int) pe_int)))
      (pss_cons (ps_dput hu (pv 0) pe_str (pe_op op_fdiv (pv 6) (pv 1)) rfl)
      (pss_one (ps_ret (pe_op op_mod (pv 6) (pv 1))))))
      pss_nil)
    (pss_cons (ps_set (i := 7) sc_law_draw.nd rfl (Or.inl rfl) (pe_lst (pa_cons pe_int (pa_cons pe_int (pa_cons pe_int (pa_cons pe_int (pa_cons pe_int (pa_cons pe_int (pa_cons pe_int pa_nil)))))))))
    (pss_cons (ps_set (i := 8) sc_law_draw.nd rfl (Or.inl rfl) (pe_ix ix_list (pv 7) (pe_op op_mod (pv 3) pe_int) (fun _ _ => rfl)))
    (pss_cons (ps_set (i := 9) sc_law_draw.nd rfl (Or.inl rfl) (pe_op op_mod (pe_op op_add (pe_op op_add (pe_op op_add (pe_op op_mul (pe_op op_mod (pv 5) (pv 8)) pe_int) (pe_op op_mul (pe_op op_mul pe_int (pv 3)) (pv 3))) (pe_op op_mul pe_int (pv 3))) pe_int) (pv 8)))
    (pss_cons (ps_set (i := 9) sc_law_draw.nd rfl (Or.inl rfl) (pe_op op_mod (pe_op op_mul (pv 9) (pe_op op_add (pv 9) pe_int)) (pe_ix ix_list (pv 7) (pe_op op_mod (pe_op op_add (pv 3) pe_int) pe_int) (fun _ _ => rfl))))
    (pss_cons (ps_set (i := 2) sc_law_draw.nd rfl (Or.inl rfl) (pe_op op_fdiv (pe_op op_mod (pe_op op_mul (pv 9) (pv 9)) (pv 8)) pe_int))
    (pss_cons (ps_if (pt_cmpR op_gt (pv 1) (pe_op op_powG pe_int pe_int) (nomark _))
      (pss_one (ps_set (i := 2) sc_law_draw.nd rfl (Or.inl rfl) (pe_op op_add (pe_op op_mod (pv 2) (pe_op op_powG pe_int pe_int)) (pe_op op_mul (pe_op op_powG pe_int pe_int) (pe_cl c_law_draw (hr.mono (by first | decide | omega)) rfl (pa_cons (pv 0) (pa_cons (pe_op op_add (pe_op op_fdiv (pv 1) (pe_op op_powG pe_int pe_int)) pe_int) pa_nil)))))))
      pss_nil)
    (pss_one (ps_ret (pe_op op_mod (pv 2) (pv 1)))))))))))))))), ?_⟩
  refine ⟨_, rfl, t, _, rfl, tape_left ht, _, _, rfl, rfl, _, rfl, ?_⟩
  refine ite2 (fun p => ?_) (fun p => ?_)
  · have lp : 0 < l := of_decide_eq_true p
    refine ⟨_, rfl, t, _, rfl, tape_left ht, _, rfl, _, _, rfl, rfl, (by omega), ?_⟩
    refine ⟨_, rfl, t, _, rfl, tape_left ht, _, rfl, _, _, rfl, rfl, ⟨by omega, by omega⟩, _, rfl, t, _, rfl, tape_put_left ht, ?_⟩
    refine ⟨_, rfl, ?_⟩
    have f1 : Fr [t] H (upd H t (.dK (tapeD c s (l / m)))) := Fr.put (by simp)
    exact k _ _ ⟨Int.emod_nonneg _ (by omega), Int.emod_lt_of_pos _ (by omega)⟩ ⟨cs, s, l / m, upd_same, f1 _ _ hcl ctn, s0, by omega, Int.ediv_nonneg l0 (by omega), h63⟩ f1
  · -- spot
    refine ⟨_, rfl, t, _, rfl, tape_spot ht, ?_⟩
    refine ⟨_, rfl, _, _, rfl, rfl, _, rfl, t, _, rfl, tape_put_spot ht, ?_⟩
    have f1 : Fr [t] H (upd H t (.dK (tapeD c (s + 1) l))) := Fr.put (by simp)
    have ht1 : (upd H t (.dK (tapeD c (s + 1) l))) t = some (.dK (tapeD c (s + 1) l)) := upd_same
    have hc1 := sq_ne hc ht f1
    generalize (upd H t (.dK (tapeD c (s + 1) l))) = H1 at *
    refine ⟨_, rfl, t, _, rfl, tape_cells ht1, or_new hc1 h63 fun c2 cs2 H2 sm2 p2 l2 hc2 => ?_⟩
    have ht2 := sm2 _ _ ht1
    have hc12 := sm2.seq hc1
    have f2 := f1.trans (Fr.same sm2 _)
    have hl2 : (cs2.map V.int).length = cs2.length := List.length_map _
    have i0 : 0 ≤ s % (((cs2.map V.int).length : Nat) : Int) := Int.emod_nonneg _ (by omega)
    have i1 : s % (((cs2.map V.int).length : Nat) : Int) < (cs2.length : Int) := by
      rw [hl2]
      exact Int.emod_lt_of_pos _ (by omega)
    obtain ⟨cell, hcell⟩ := at_ints i0 i1
    refine ⟨_, rfl, _, rfl, _, rfl, c2, _, rfl, .inl hc2, _, _, rfl, rfl, (by rw [hl2]; omega), c2, _, _, _, rfl, rfl, hc2, hcell, ?_⟩
    refine ⟨fun σ' H' => σ' = [some (.ref t), some (.int m), none, some (.int s), some (.ref c2), some (.int cell), none, none, none, none] ∧ H' = H2, ?_, ?_⟩
    · refine ⟨_, rfl, _, _, rfl, rfl, pw18, _, _, rfl, rfl, _, rfl, ?_⟩
      refine ite2 (fun p3 => ?_) (fun p3 => ⟨rfl, rfl⟩)
      refine ⟨_, rfl, _, rfl, c2, _, rfl, .inl hc2, _, _, rfl, rfl, _, rfl, ?_⟩
      refine ite2 (fun p4 => ?_) (fun p4 => ⟨rfl, rfl⟩)
      refine ⟨_, rfl, _, _, rfl, rfl, pw18, _, _, rfl, rfl, _, _, rfl, rfl, pw50, _, _, rfl, rfl, pw60, _, _, rfl, rfl, pw10, _, _, rfl, rfl, big_pos, ?_⟩
      have g0 : 0 ≤ (cell - 10 ^ (18 : Int).toNat) % ((10 ^ (50 : Int).toNat) ^ (60 : Int).toNat) ^ (10 : Int).toNat := Int.emod_nonneg _ (Int.ne_of_gt big_pos)
      dsimp only
      generalize (cell - 10 ^ (18 : Int).toNat) % ((10 ^ (50 : Int).toNat) ^ (60 : Int).toNat) ^ (10 : Int).toNat = gr at *
      refine ⟨_, rfl, _, rfl, _, _, rfl, rfl, ⟨by omega, by omega⟩, _, rfl, t, _, rfl, tape_put_left ht2, ?_⟩
      refine ⟨_, rfl, _, rfl, _, _, rfl, rfl, (by omega), ?_⟩
      have f3 : Fr [t] H2 (upd H2 t (.dK (tapeD c (s + 1) (gr / m)))) := Fr.put (by simp)
      exact k _ _ ⟨Int.emod_nonneg _ (by omega), Int.emod_lt_of_pos _ (by omega)⟩ ⟨cs, s + 1, gr / m, upd_same, (f2.trans f3) _ _ hcl ctn, by omega, by omega, Int.ediv_nonneg g0 (by omega), h63⟩ (f2.trans f3)
    · rintro σ' H' ⟨rfl, rfl⟩
      refine ⟨(by show 7 ≤ sizeLine; decide), fun pr hpr => ?_⟩
      have sm3 := same_new (o := .lst [V.int 2147483647, .int 2147483629, .int 2147483587, .int 2147483579, .int 2147483563, .int 2147483549, .int 2147483543]) hpr
      have hP : SqL K (upd H' pr (.lst [V.int 2147483647, .int 2147483629, .int 2147483587, .int 2147483579, .int 2147483563, .int 2147483549, .int 2147483543])) pr (primes.map V.int) := SqL.of upd_same
      have ht3 := sm3 _ _ ht2
      have hc3 := sm3.seq hc12
      have f3 := f2.trans (Fr.same sm3 _)
      generalize (upd H' pr (.lst [V.int 2147483647, .int 2147483629, .int 2147483587, .int 2147483579, .int 2147483563, .int 2147483549, .int 2147483543])) = H3 at *
      obtain ⟨q1, a1, b1, c1⟩ := prime_at (i := s % 7) (Int.emod_nonneg _ (by decide)) (Int.emod_lt_of_pos _ (by decide))
      refine ⟨_, rfl, _, rfl, _, _, rfl, rfl, (by show (0 : Int) < 7; decide), pr, _, _, _, rfl, rfl, hP, a1, ?_⟩
      have e0 : 0 ≤ cell % q1 := Int.emod_nonneg _ (by omega)
      have e1 : cell % q1 < q1 := Int.emod_lt_of_pos _ (by omega)
      refine ⟨_, rfl, _, rfl, _, _, rfl, rfl, (by omega), _, _, rfl, rfl, .inr ⟨by decide, by decide⟩, _, rfl, _, _, rfl, rfl, .inl ⟨by decide, by decide⟩, _, rfl, _, _, rfl, rfl, .inr ⟨by omega, by omega⟩, _, _, rfl, rfl, _, rfl, _, _, rfl, rfl, .inl ⟨by decide, by decide⟩, _, _, rfl, rfl, _, _, rfl, rfl, _, rfl, _, _, rfl, rfl, (by omega), ?_⟩
      dsimp only
      generalize hsd : (cell % q1 * 48271 + 7919 * s * s + 69621 * s + 1) % q1 = sd
      have d0 : 0 ≤ sd := by rw [← hsd]; exact Int.emod_nonneg _ (by omega)
      have d1 : sd < q1 := by rw [← hsd]; exact Int.emod_lt_of_pos _ (by omega)
      obtain ⟨q2, a2, b2, c2'⟩ := prime_at (i := (s + 3) % 7) (Int.emod_nonneg _ (by decide)) (Int.emod_lt_of_pos _ (by decide))
      refine ⟨_, rfl, _, rfl, _, _, rfl, rfl, _, _, rfl, rfl, .inl ⟨by omega, by omega⟩, _, rfl, _, rfl, _, _, rfl, rfl, _, _, rfl, rfl, (by show (0 : Int) < 7; decide), pr, _, _, _, rfl, rfl, hP, a2, _, _, rfl, rfl, (by omega), ?_⟩
      dsimp only
      generalize hse : sd * (sd + 16807) % q2 = se
      have e2 : 0 ≤ se := by rw [← hse]; exact Int.emod_nonneg _ (by omega)
      have e3 : se < q2 := by rw [← hse]; exact Int.emod_lt_of_pos _ (by omega)
      refine ⟨_, rfl, _, rfl, _, _, rfl, rfl, .inl ⟨by omega, by omega⟩, _, rfl, _, _, rfl, rfl, (by omega), _, _, rfl, rfl, ⟨by decide, by decide⟩, ?_⟩
      dsimp only
      generalize se * se % q1 / 64 = fo
      refine ⟨_, rfl, _, _, rfl, rfl, pw6, _, _, rfl, rfl, _, rfl, ?_⟩
      refine ite2 (fun p5 => absurd (of_decide_eq_true p5) (by rw [pw6e]; omega)) (fun p5 => ?_)
      refine ⟨_, rfl, _, rfl, _, _, rfl, rfl, (by omega), ?_⟩
      exact k _ _ ⟨Int.emod_nonneg _ (by omega), Int.emod_lt_of_pos _ (by omega)⟩ ⟨cs, s + 1, l, ht3, f3 _ _ hcl ctn, by omega, by omega, l0, h63⟩ f3
end
end SG
namespace SG
open PySem PySem.Spec PyProof.Rows L2
section
variable {K : PySem.W.Frag} {H H' H1 : Hp} {t c p : Addr} {n m : Nat}
theorem Fr.one {S : List Addr} {o : HO} (f : Fr S H H') (h : H p = some o) (hn : p ∉ S) : H' p = some o := f p o h hn
theorem TapeAt.ne_new (h : TapeAt H t c n) (hp : H p = none) : p ≠ t := by
  obtain ⟨kvs, e⟩ := h.is
  exact fun z => by rw [z, e] at hp; cases hp
theorem TapeAt.ne_lst {xs : List V} (h : TapeAt H t c n) (hp : H p = some (.lst xs)) : p ≠ t := by
  obtain ⟨kvs, e⟩ := h.is
  exact ne_of hp e (by intro z; cases z)
theorem TapeAt.ne_tup {xs : List V} (h : TapeAt H t c n) (hp : H p = some (.tup xs)) : p ≠ t := by
  obtain ⟨kvs, e⟩ := h.is
  exact ne_of hp e (by intro z; cases z)
theorem not_in_one {a b : Addr} (h : a ≠ b) : a ∉ [b] := by simpa using h
theorem sl1000 {n : Nat} (h : n ≤ 1000) : n ≤ sizeLine := Nat.le_of_lt (small1000 h)
theorem TapeAt.ne_newc (h : TapeAt H t c n) (hp : H p = none) : p ≠ c := by
  obtain ⟨cs, s, l, h1, h2, h3, h4, h5, h6⟩ := h
  exact fun z => by rw [z, h2] at hp; cases hp
theorem TapeAt.ne_tupc {xs : List V} (h : TapeAt H t c n) (hp : H p = some (.tup xs)) : p ≠ c := by
  obtain ⟨cs, s, l, h1, h2, h3, h4, h5, h6⟩ := h
  exact ne_of hp h2 (by intro z; cases z)
theorem TapeAt.ne_dctc {xs : List (Key × V)} (h : TapeAt H t c n) (hp : H p = some (.dK xs)) : p ≠ c := by
  obtain ⟨cs, s, l, h1, h2, h3, h4, h5, h6⟩ := h
  exact ne_of hp h2 (by intro z; cases z)
theorem TapeAt.put {o : HO} (h : TapeAt H t c n) (h1 : p ≠ t) (h2 : p ≠ c) : TapeAt (upd H p o) t c n := by
  obtain ⟨cs, s, l, e1, e2, r⟩ := h
  exact ⟨cs, s, l, by rw [upd_ne h1.symm]; exact e1, by rw [upd_ne h2.symm]; exact e2, r⟩
/-- [..][_law_draw(tape, m)], the list new -/
theorem pick_draw {xs : List V} {i : Int} {Q : VK} (hT : TapeAt H t c n) (hn : n ≤ 1000000000) (hm : i = (xs.length : Int)) (hx : 1 ≤ xs.length ∧ xs.length ≤ 1000)
    (k : ∀ v H', v ∈ xs → TapeAt H' t c (n + 1) → Fr [t] H H' → Q v H') : ∀ p, H p = none → spDraw [.ref t, .int i] (upd H p (.lst xs)) (fun y H2 => rIxL K (.ref p) y H2 Q) E0 := by
  intro p hp
  have pt := hT.ne_new hp
  have sm := same_new (o := .lst xs) hp
  have hh : (upd H p (.lst xs)) p = some (.lst xs) := upd_same
  generalize upd H p (.lst xs) = Hx at *
  refine ⟨t, c, i, n, rfl, hT.same sm, ⟨by omega, by omega⟩, hn, fun r H' hr T' F' => ?_⟩
  obtain ⟨v, hv, e⟩ := at_in (xs := xs) hr.1 (by omega)
  exact ⟨p, xs, r, v, rfl, rfl, SqL.of (F' _ _ hh (not_in_one pt)), e, k v H' hv T' ((Fr.same sm _).trans F')⟩
end
end SG
namespace SG
open PySem PySem.Spec PyProof.Rows L2
section
variable {K : PySem.W.Frag} {H H' H1 H2 : Hp} {t c p : Addr} {n m : Nat}
theorem ne_fresh {o : HO} (h : H c = some o) (hp : H p = none) : p ≠ c := (ne_of_none h hp).symm
theorem Fr.fresh {S : List Addr} (f : Fr S H H1) (hp : H1 p = none) (hn : p ∉ S) : H p = none := by
  cases e : H p with
  | none => rfl
  | some o => rw [f _ _ e hn] at hp; cases hp
theorem Fr.upd_new {o : HO} {S : List Addr} (a : Fr S H H1) (b : Fr S H1 H2) (hp : H p = none) : Fr S H (upd H2 p o) := fun q u e n => by
  rw [L2.upd_ne (ne_of_none e hp)]
  exact b _ _ (a _ _ e n) n
theorem flat_strs : ∀ ws : List Str, (ws.map V.str).all flatV = true
  | [] => rfl
  | _ :: r => by
    rw [List.map_cons, List.all_cons, flat_strs r]
    rfl
theorem sum_ones : ∀ {ys : List Str}, (∀ z ∈ ys, z.length = 1) → (ys.map (·.length)).sum = ys.length
  | [], _ => rfl
  | y :: r, h => by
    rw [List.map_cons, List.sum_cons, List.length_cons, sum_ones (fun z hz => h z (List.mem_cons_of_mem _ hz)), h y List.mem_cons_self]
    omega
end
/-! ### words -/
abbrev alphabet : Str := "abcdefghijklmnopqrstuvwxyz"
abbrev ownS : Str := "tap press pull part ear hear stop back"
theorem alpha_len : alphabet.cps.toList.length = 26 := by decide +kernel
theorem alpha_size : alphabet.cps.size = 26 := by decide +kernel
theorem alpha_small : alphabet.length ≤ sizeLine := by decide +kernel
theorem own_len : (Txt.split ownS " ").length = 8 := by decide +kernel
theorem own_small : ∀ z ∈ Txt.split ownS " ", z.length ≤ 8 := by decide +kernel
theorem len_cut8 (z : Str) : (cutS z none (some 8)).length ≤ 8 := by
  show (Array.size _) ≤ 8
  unfold cutS
  simp only [List.size_toArray, List.length_take]
  have e : HT.sIx z.length z.length (some 8) = min 8 z.length := HT.sIx_nat _ _ 8
  rw [e]
  omega
theorem len_cut7 (z : Str) : (cutS z none (some 7)).length ≤ 7 := by
  show (Array.size _) ≤ 7
  unfold cutS
  simp only [List.size_toArray, List.length_take]
  have e : HT.sIx z.length z.length (some 7) = min 7 z.length := HT.sIx_nat _ _ 7
  rw [e]
  omega
theorem len_cut1 (z : Str) : (cutS z (some 1) none).length + 1 ≤ max z.length 1 := by
  show (Array.size _) + 1 ≤ _
  unfold cutS
  have hz : z.cps.toList.length = z.length := by simp [Str.length]
  simp only [List.size_toArray, List.length_take, List.length_drop, hz]
  have e : HT.sIx z.length 0 (some 1) = min 1 z.length := HT.sIx_nat _ _ 1
  rw [e, HT.sIx_none]
  omega
theorem len_add (a b : Str) : (a ++ b).length = a.length + b.length := Str.length_append ..
theorem len_sign (c : Nat) : (⟨#[c]⟩ : Str).length = 1 := rfl
theorem sz {n : Nat} (h : n ≤ 100000) : n ≤ sizeLine := Nat.le_trans h (by decide)
def spWords : Sp := fun vs H Q _ => ∃ (t c : Addr) (m n : Nat), vs = [.ref t, .int m] ∧ TapeAt H t c n ∧ m ≤ 60 ∧ n ≤ 100000000 ∧
  ∀ (p : Addr) (ws : List Str) (H' : Hp), H p = none → H' p = some (.lst (ws.map V.str)) → ws.length = m → TapeAt H' t c (n + 200) → Fr [t] H H' → Q (.ref p) H'
section
variable {P : Program} {w : World} {K : PySem.W.Frag} {mg : Str → Option Value} {base : Heap}
theorem ok_words (D : Df K mg "_law_words" s_law_words ["_law_tape_here", "_law_many"]) (T : Txt K mg) (c_law_draw : Cl P w K mg base 1 "_law_draw" spDraw) : Cl P w K mg base 2 "_law_words" spWords := by
  refine D.ok sc_law_words (fun vs H Q E h => ?_) (fun f cdv A outer s H vs Q E hr h => ?_)
  · obtain ⟨t, c, m, n, rfl, _⟩ := h
    rfl
  obtain ⟨t, c, m, n, rfl, hT, hm, hn, k⟩ := h
  have hu := hu_of hr
  refine ⟨_, -- _law_letters = 'abcdefghijklmnopqrstuvwxyz'
    (pss_cons (ps_set (i := 2) sc_law_words.nd rfl (Or.inr rfl) pe_str)
    (pss_cons (ps_set (i := 3) sc_law_words.nd rfl (Or.inl rfl) (pe_split pe_str pe_str))
    (pss_cons (ps_set (i := 5) sc_law_words.nd rfl (Or.inl rfl) (pe_join pe_str (pe_lc (own := [("_law_k", 4)]) rfl sc_law_words.nd (pi_range1 rfl T.m_range (pa_cons (pe_op op_add pe_int (pe_cl c_law_draw (hr.mono (by first | decide | omega)) rfl (pa_cons (pv 0) (pa_cons pe_int pa_nil)))) pa_nil)) (blkOk_by (N := N_law_words) (sc := defScope s_law_words) (by decide +kernel)) (fun _ _ _ _ _ => (pg_name (i := 4) sc_law_words.nd rfl (Or.inl rfl))) (fun _ _ _ _ _ => pts_nil) (fun _ _ _ _ _ => (pe_ix ix_str (pv 2) (pe_cl c_law_draw (hr.mono (by first | decide | omega)) rfl (pa_cons (pv 0) (pa_cons pe_int pa_nil))) (fun _ _ => rfl))))))
    (pss_cons (ps_set (i := 6) sc_law_words.nd rfl (Or.inl rfl) (pe_lst pa_nil))
    (pss_cons (ps_for PassesOwn.never rfl (pi_range1 rfl T.m_range (pa_cons (pv 1) pa_nil)) (pg_name (i := 4) sc_law_words.nd rfl (Or.inl rfl))
      (pss_cons (ps_set (i := 7) sc_law_words.nd rfl (Or.inl rfl) (pe_ix ix_str (pv 2) (pe_cl c_law_draw (hr.mono (by first | decide | omega)) rfl (pa_cons (pv 0) (pa_cons pe_int pa_nil))) (fun _ _ => rfl)))
      (pss_cons (ps_set (i := 8) sc_law_words.nd rfl (Or.inl rfl) (pe_lst (pa_cons (pv 5) (pa_cons (pe_op op_add_str (pv 5) (pv 7)) (pa_cons (pe_op op_add_str (pv 7) (pv 5)) (pa_cons (pv 7) (pa_cons (pe_op op_add_str (pe_op op_add_str (pv 5) (pv 7)) (pv 7)) (pa_cons (pe_ix ix_list (pv 3) (pe_cl c_law_draw (hr.mono (by first | decide | omega)) rfl (pa_cons (pv 0) (pa_cons pe_int pa_nil))) (fun _ _ => rfl)) pa_nil))))))))
      (pss_cons (ps_set (i := 9) sc_law_words.nd rfl (Or.inl rfl) (pe_slice sl_str (pe_ix ix_list (pv 8) (pe_cl c_law_draw (hr.mono (by first | decide | omega)) rfl (pa_cons (pv 0) (pa_cons pe_int pa_nil))) (fun _ _ => rfl)) po_none (po_some pe_int)))
      (pss_cons (ps_for PassesOwn.never rfl (pi_str (pv 2)) (pg_name (i := 10) sc_law_words.nd rfl (Or.inl rfl))
        (pss_one (ps_if (pt_cmpR op_in_seq (pv 9) (pv 6) (by with_unfolding_all rfl))
          (pss_one (ps_set (i := 9) sc_law_words.nd rfl (Or.inl rfl) (pe_op op_add_str (pe_slice sl_str (pv 9) po_none (po_some pe_int)) (pv 10))))
          pss_nil)))
      (pss_cons (ps_for PassesOwn.never rfl (pi_str (pv 2)) (pg_name (i := 10) sc_law_words.nd rfl (Or.inl rfl))
        (pss_one (ps_if (pt_cmpR op_in_seq (pv 9) (pv 6) (by with_unfolding_all rfl))
          (pss_one (ps_set (i := 9) sc_law_words.nd rfl (Or.inl rfl) (pe_op op_add_str (pv 10) (pe_slice sl_str (pv 9) (po_some pe_int) po_none))))
          pss_nil)))
      (pss_one (ps_expr (pe_bm PySem.F.plainAttrs_list PySem.F.slot_list_append PySem.F.type_list_append mt_append (pv 6) (pa_cons (pv 9) pa_nil))))))))))
    (pss_one (ps_ret (pv 6)))))))), ?_⟩
  refine ⟨⟨_, rfl⟩, _, _, rfl, rfl, rfl, (by decide +kernel), ?_⟩
  refine alloc fun ow H1 ow0 how sm1 _ => ?_
  have f1 := Fr.same sm1 [t]
  have T1 := hT.same sm1
  have owt := hT.ne_new ow0
  clear sm1
  refine ⟨⟨_, rfl⟩, ?_⟩
  refine ⟨_, rfl, t, c, 6, n, rfl, T1, ⟨by decide, by decide⟩, by omega, fun r H2 hr2 T2 f2 => ?_⟩
  refine ⟨_, _, rfl, rfl, _, rfl, (by show -(2 ^ 62) ≤ 1 + r; omega), (by show 1 + r < 2 ^ 62; omega), fun dd hdd => ?_⟩
  have f12 := f1.trans f2
  have how2 := f2 _ _ how (not_in_one owt)
  have hd0 : H2 dd = none := hdd
  refine lc_range (n := (1 + r).toNat) (fun i Hx => ∃ ys : List Str, Hx dd = some (.lst (ys.map V.str)) ∧ (∀ z ∈ ys, z.length = 1) ∧ ys.length = i ∧ TapeAt Hx t c (n + 1 + i) ∧ Fr [t] H2 Hx) ?_ ?_ ?_
  · exact ⟨[], upd_same, by simp, rfl, T2.same (same_new hdd), Fr.new hdd⟩
  · rintro i Hx hi ⟨ys, h1, h2, h3, Tx, fx⟩
    refine ⟨rfl, ?_⟩
    refine ⟨_, rfl, _, rfl, t, c, 26, n + 1 + i, rfl, Tx, ⟨by decide, by decide⟩, by omega, fun r3 H3 hr3 T3 f3 => ?_⟩
    obtain ⟨cc, hcc, e⟩ := at_in (xs := alphabet.cps.toList) hr3.1 (by rw [alpha_len]; exact hr3.2)
    refine ⟨_, _, cc, rfl, rfl, alpha_small, e, ys.map V.str, f3 _ _ h1 (not_in_one (Tx.ne_lst h1)), (by rw [List.length_map]; exact Nat.lt_of_lt_of_le (by omega : ys.length < 7) (by decide)), ?_⟩
    refine ⟨ys ++ [⟨#[cc]⟩], by rw [upd_same, List.map_append]; rfl, fun z hz => ?_, by simp [h3], (T3.put (T2.ne_new hd0) (T2.ne_newc hd0)).mono (by omega), fx.upd_new f3 hd0⟩
    rcases List.mem_append.mp hz with hz | hz
    · exact h2 z hz
    · rw [List.mem_singleton.mp hz]; rfl
  rintro Hx ⟨ys, h1, h2, h3, Tx, fx⟩
  have hy : (ys.map (·.length)).sum = ys.length := sum_ones h2
  refine ⟨_, dd, ys, rfl, rfl, .inl (SqL.of h1), (by rw [hy]; show _ + ys.length * 0 ≤ _; omega), ?_⟩
  have hb2 : (Txt.join "" ys).length ≤ 7 := by
    show (Builtin.Str.glued "" ys).length ≤ 7
    rw [StrLaws.glued_eq_join]
    refine Nat.le_trans (StrLaws.join_length_le "" ys) ?_
    rw [hy]
    show _ + ys.length * 0 ≤ _
    omega
  generalize Txt.join "" ys = bs at *
  have f3 := f12.trans fx
  have how3 := fx _ _ how2 (not_in_one owt)
  clear hdd h1 h2 h3 hy
  refine ⟨(by show 0 ≤ sizeLine; decide), ?_⟩
  refine alloc fun fo H3 hfo hfo3 sm3 _ => ?_
  have T3 := Tx.same sm3
  have f4 := f3.trans (Fr.same sm3 _)
  have how4 := sm3 _ _ how3
  have fot := Tx.ne_new hfo
  have foc := Tx.ne_newc hfo
  have foo : fo ≠ ow := fun z => by rw [z, how3] at hfo; cases hfo
  have fo0 : H fo = none := by
    cases e : H fo with
    | none => rfl
    | some o => rw [f3 _ _ e (not_in_one fot)] at hfo; cases hfo
  refine ⟨_, rfl, m, rfl, (by omega), (by omega), for_range (n := (m : Int).toNat) (fun i σ Hy => ∃ (k7 k8 k9 k10 : Option V) (ws : List Str) (kk : Option V), σ = [some (.ref t), some (.int m), some (.str alphabet), some (.ref ow), kk, some (.str bs), some (.ref fo), k7, k8, k9, k10] ∧ Hy fo = some (.lst (ws.map V.str)) ∧ ws.length = i ∧ Hy ow = some (.lst ((Txt.split ownS " ").map V.str)) ∧ TapeAt Hy t c (n + 8 + 3 * i) ∧ Fr [t] H Hy) ?_ ?_ ?_⟩
  · exact ⟨none, none, none, none, [], none, rfl, hfo3, rfl, how4, T3.mono (by omega), f4⟩
  · rintro i σ Hy hi ⟨k7, k8, k9, k10, ws, kk, rfl, hw1, hw2, how5, Ty, fy⟩
    refine ⟨_, rfl, _, rfl, t, c, 26, _, rfl, Ty, ⟨by decide, by decide⟩, by omega, fun r4 H4 hr4 T4 f4 => ?_⟩
    obtain ⟨cc, hcc, e4⟩ := at_in (xs := alphabet.cps.toList) hr4.1 (by rw [alpha_len]; exact hr4.2)
    refine ⟨_, _, cc, rfl, rfl, alpha_small, e4, ?_⟩
    have how6 := f4 _ _ how5 (not_in_one owt)
    have hw3 := f4 _ _ hw1 (not_in_one fot)
    refine ⟨_, rfl, _, rfl, _, rfl, _, _, rfl, rfl, sz (by rw [len_sign]; omega), _, rfl, _, rfl, _, _, rfl, rfl, sz (by rw [len_sign]; omega), _, rfl, _, rfl, _, rfl, _, _, rfl, rfl, sz (by rw [len_sign]; omega), _, rfl, _, _, rfl, rfl, sz (by rw [len_add, len_sign]; omega), _, rfl, _, rfl, t, c, 8, _, rfl, T4, ⟨by decide, by decide⟩, by omega, fun r5 H5 hr5 T5 f5 => ?_⟩
    have how7 := f5 _ _ how6 (not_in_one owt)
    have hw4 := f5 _ _ hw3 (not_in_one fot)
    obtain ⟨vo, hvo, e5⟩ := at_in (xs := (Txt.split ownS " ").map V.str) hr5.1 (by rw [List.length_map, own_len]; exact hr5.2)
    obtain ⟨zo, hzo, rfl⟩ := List.mem_map.mp hvo
    refine ⟨ow, _, _, _, rfl, rfl, SqL.of how7, e5, (by show 6 ≤ sizeLine; decide), fun p hp => ?_⟩
    have pfo : p ≠ fo := ne_fresh hw4 hp
    have six := same_new (o := .lst [.str bs, .str (bs ++ ⟨#[cc]⟩), .str (⟨#[cc]⟩ ++ bs), .str ⟨#[cc]⟩, .str (bs ++ ⟨#[cc]⟩ ++ ⟨#[cc]⟩), .str zo]) hp
    have hp1 : (upd H5 p (.lst [.str bs, .str (bs ++ ⟨#[cc]⟩), .str (⟨#[cc]⟩ ++ bs), .str ⟨#[cc]⟩, .str (bs ++ ⟨#[cc]⟩ ++ ⟨#[cc]⟩), .str zo])) p = _ := upd_same
    have T6 := T5.same six
    have pt := T5.ne_new hp
    have hw5 := six _ _ hw4
    have how8 := six _ _ how7
    have f6 := (fy.trans (f4.trans f5)).trans (Fr.same six _)
    generalize (upd H5 p (.lst [.str bs, .str (bs ++ ⟨#[cc]⟩), .str (⟨#[cc]⟩ ++ bs), .str ⟨#[cc]⟩, .str (bs ++ ⟨#[cc]⟩ ++ ⟨#[cc]⟩), .str zo])) = H6 at *
    refine ⟨_, rfl, _, rfl, t, c, 6, _, rfl, T6, ⟨by decide, by decide⟩, by omega, fun r7 H7 hr7 T7 f7 => ?_⟩
    have hp2 := f7 _ _ hp1 (not_in_one pt)
    have hw6 := f7 _ _ hw5 (not_in_one fot)
    have how9 := f7 _ _ how8 (not_in_one owt)
    have f8 := f6.trans f7
    obtain ⟨v7, hv7, e7⟩ := at_in (xs := [V.str bs, .str (bs ++ ⟨#[cc]⟩), .str (⟨#[cc]⟩ ++ bs), .str ⟨#[cc]⟩, .str (bs ++ ⟨#[cc]⟩ ++ ⟨#[cc]⟩), .str zo]) hr7.1 hr7.2
    have hz : ∃ z : Str, v7 = .str z ∧ z.length ≤ 100 := by
      have l1 := len_sign cc
      have l2 := len_add bs ⟨#[cc]⟩
      have l3 := len_add ⟨#[cc]⟩ bs
      have l4 := len_add (bs ++ ⟨#[cc]⟩) ⟨#[cc]⟩
      have l5 := own_small zo hzo
      simp only [List.mem_cons, List.not_mem_nil, or_false] at hv7
      rcases hv7 with rfl | rfl | rfl | rfl | rfl | rfl
      all_goals exact ⟨_, rfl, by omega⟩
    obtain ⟨z7, rfl, hz7⟩ := hz
    refine ⟨p, _, _, _, rfl, rfl, SqL.of hp2, e7, _, rfl, z7, rfl, sz (by omega), ?_⟩
    have l8 := len_cut8 z7
    generalize cutS z7 none (some 8) = w0 at *
    refine ⟨_, rfl, alphabet, rfl, for_it walk_str (fun j σ Hz => Hz = H7 ∧ ∃ (w1 : Str) (x10 : Option V), σ = [some (.ref t), some (.int m), some (.str alphabet), some (.ref ow), some (.int (0 + i)), some (.str bs), some (.ref fo), some (.str ⟨#[cc]⟩), some (.ref p), some (.str w1), x10] ∧ w1.length ≤ 8) ⟨rfl, w0, _, rfl, l8⟩ (fun _ _ _ _ _ => trivial) ?_ ?_⟩
    · rintro j x σ Hz Hz' hj ⟨rfl, w1, x10, rfl, hw⟩ ⟨rfl, c1, _, rfl⟩
      refine ⟨_, rfl, _, rfl, fo, _, rfl, .inl (SqL.of hw6), rfl, flat_strs ws, _, rfl, ?_⟩
      refine ite2 (fun _ => ?_) (fun _ => ?_)
      · refine ⟨_, rfl, _, rfl, w1, rfl, sz (by omega), _, rfl, _, _, rfl, rfl, sz (by rw [len_sign]; have := len_cut7 w1; omega), rfl, _, _, rfl, ?_⟩
        rw [len_add, len_sign]
        have := len_cut7 w1
        omega
      · exact ⟨rfl, w1, _, rfl, hw⟩
    rintro σ Hz ⟨rfl, w1, x10, rfl, hw1⟩
    refine ⟨_, rfl, alphabet, rfl, for_it walk_str (fun j σ Hz' => Hz' = Hz ∧ ∃ (w1 : Str) (x10 : Option V), σ = [some (.ref t), some (.int m), some (.str alphabet), some (.ref ow), some (.int (0 + i)), some (.str bs), some (.ref fo), some (.str ⟨#[cc]⟩), some (.ref p), some (.str w1), x10] ∧ w1.length ≤ 8) ⟨rfl, w1, _, rfl, hw1⟩ (fun _ _ _ _ _ => trivial) ?_ ?_⟩
    · rintro j x σ Hz2 Hz' hj ⟨rfl, w1, x10, rfl, hw⟩ ⟨rfl, c1, _, rfl⟩
      refine ⟨_, rfl, _, rfl, fo, _, rfl, .inl (SqL.of hw6), rfl, flat_strs ws, _, rfl, ?_⟩
      refine ite2 (fun _ => ?_) (fun _ => ?_)
      · refine ⟨_, rfl, _, rfl, _, rfl, w1, rfl, sz (by omega), _, _, rfl, rfl, sz (by rw [len_sign]; have := len_cut1 w1; omega), rfl, _, _, rfl, ?_⟩
        rw [len_add, len_sign]
        have := len_cut1 w1
        omega
      · exact ⟨rfl, w1, _, rfl, hw⟩
    rintro σ Hz2 ⟨rfl, w2, x11, rfl, hw2'⟩
    refine ⟨_, rfl, .inl ⟨rfl, _, .inl (.inl hw6)⟩, _, rfl, fo, _, _, rfl, rfl, hw6, (by rw [List.length_map]; exact Nat.lt_of_lt_of_le (by omega : ws.length < 100000) (by decide)), ?_⟩
    refine ⟨_, _, _, _, ws ++ [w2], _, rfl, by rw [upd_same, List.map_append]; rfl, by simp [hw2], by rw [L2.upd_ne foo.symm]; exact how9, (T7.put fot foc).mono (by omega), f8.upd_new (Fr.refl _ _) fo0⟩
  · rintro σ Hy ⟨k7, k8, k9, k10, ws, kk, rfl, hw1, hw2, how5, Ty, fy⟩
    refine ⟨_, rfl, ?_⟩
    exact k fo ws Hy fo0 hw1 (by omega) (Ty.mono (by omega)) fy
end
end SG
namespace SG
open PySem PySem.Spec PyProof.Rows L2
/-! ### data made of tuples, of bounded depth -/
def ImD (H : Hp) (n : Nat) (v : V) : Prop := ∃ d : PyData, Im H v d ∧ d.depth ≤ n
def ImDs (H : Hp) (n : Nat) (vs : List V) : Prop := ∀ v ∈ vs, ImD H n v
section
variable {H H' : Hp} {n m : Nat} {v : V} {vs ws : List V} {a p : Addr}
theorem ImD.tp (h : ImD H n v) (t : Tp H H') : ImD H' n v := by
  obtain ⟨d, h1, h2⟩ := h
  exact ⟨d, h1.tp t, h2⟩
theorem ImDs.tp (h : ImDs H n vs) (t : Tp H H') : ImDs H' n vs := fun v hv => (h v hv).tp t
theorem ImD.mono (h : ImD H n v) (q : n ≤ m) : ImD H m v := by
  obtain ⟨d, h1, h2⟩ := h
  exact ⟨d, h1, Nat.le_trans h2 q⟩
theorem ImD.int (i : Int) : ImD H n (.int i) := ⟨.int i, .int i, Nat.zero_le _⟩
theorem ImD.str (x : Str) : ImD H n (.str x) := ⟨.str x, .str x, Nat.zero_le _⟩
theorem ImD.non : ImD H n .non := ⟨.none, .non, Nat.zero_le _⟩
theorem ImDs.nil : ImDs H n [] := fun v hv => nomatch hv
theorem ImDs.cons (h : ImD H n v) (t : ImDs H n vs) : ImDs H n (v :: vs) := fun w hw => by
  rcases List.mem_cons.mp hw with rfl | hw
  · exact h
  · exact t w hw
theorem ImDs.snoc (t : ImDs H n vs) (h : ImD H n v) : ImDs H n (vs ++ [v]) := fun w hw => by
  rcases List.mem_append.mp hw with hw | hw
  · exact t w hw
  · rw [List.mem_singleton.mp hw]; exact h
theorem ImDs.append (t : ImDs H n vs) (h : ImDs H n ws) : ImDs H n (vs ++ ws) := fun w hw => by
  rcases List.mem_append.mp hw with hw | hw
  · exact t w hw
  · exact h w hw
theorem ImDs.all : ∀ {vs : List V}, ImDs H n vs → ∃ ds, ImAll H vs ds ∧ PyData.depthAll ds ≤ n
  | [], _ => ⟨[], .nil, Nat.zero_le _⟩
  | v :: vs, h => by
    obtain ⟨d, h1, h2⟩ := h v List.mem_cons_self
    obtain ⟨ds, h3, h4⟩ := ImDs.all (fun w hw => h w (List.mem_cons_of_mem _ hw))
    exact ⟨d :: ds, .cons h1 h3, by show max _ _ ≤ n; omega⟩
theorem ImD.tup (h : ImDs H n vs) (e : H a = some (.tup vs)) : ImD H (n + 1) (.ref a) := by
  obtain ⟨ds, h1, h2⟩ := h.all
  exact ⟨.tuple ds, .tup e h1, by show PyData.depthAll ds + 1 ≤ n + 1; omega⟩
theorem Tp.put {xs : List V} {o : HO} (h : H p = some (.lst xs)) : Tp H (upd H p o) := fun b ys e => by
  rw [upd_ne (ne_of e h (by intro z; cases z))]
  exact e
theorem Tp.putD {xs : List (Key × V)} {o : HO} (h : H p = some (.dK xs)) : Tp H (upd H p o) := fun b ys e => by
  rw [upd_ne (ne_of e h (by intro z; cases z))]
  exact e
end
theorem rgV_len (a b : Int) : (rgV a b).length = (b - a).toNat := by
  unfold rgV
  rw [List.length_map, List.length_range]
theorem rgV_im {H : Hp} {n : Nat} (a b : Int) : ImDs H n (rgV a b) := fun v hv => by
  unfold rgV at hv
  obtain ⟨j, _, rfl⟩ := List.mem_map.mp hv
  exact .int _
/-! ### machines -/
def spMachine : Sp := fun vs H Q _ => ∃ (t c : Addr) (n : Nat), vs = [.ref t] ∧ TapeAt H t c n ∧ n ≤ 100000000 ∧
  ∀ (a : Addr) (H' : Hp), ImD H' 4 (.ref a) → TapeAt H' t c (n + 100) → Fr [t] H H' → Q (.ref a) H'
section
variable {P : Program} {w : World} {K : PySem.W.Frag} {mg : Str → Option Value} {base : Heap}
theorem ok_machine (D : Df K mg "_law_machine" s_law_machine ["_law_tape_here"]) (T : Txt K mg) (c_law_draw : Cl P w K mg base 1 "_law_draw" spDraw) : Cl P w K mg base 2 "_law_machine" spMachine := by
  refine D.ok sc_law_machine (fun vs H Q E h => ?_) (fun f cdv A outer s H vs Q E hr h => ?_)
  · obtain ⟨t, c, n, rfl, _⟩ := h
    rfl
  obtain ⟨t, c, n, rfl, hT, hn, k⟩ := h
  have hu := hu_of hr
  refine ⟨_, -- _law_many = 1 + _law_draw(_law_tape_here, 4)
    (pss_cons (ps_set (i := 1) sc_law_machine.nd rfl (Or.inl rfl) (pe_op op_add pe_int (pe_cl c_law_draw (hr.mono (by first | decide | omega)) rfl (pa_cons (pv 0) (pa_cons pe_int pa_nil)))))
    (pss_cons (ps_set (i := 2) sc_law_machine.nd rfl (Or.inl rfl) (pe_lst pa_nil))
    (pss_cons (ps_for PassesOwn.never rfl (pi_range1 rfl T.m_range (pa_cons (pv 1) pa_nil)) (pg_name (i := 3) sc_law_machine.nd rfl (Or.inl rfl))
      (pss_cons (ps_set (i := 4) sc_law_machine.nd rfl (Or.inl rfl) (pe_lst (pa_cons pe_str (pa_cons pe_str (pa_cons (pe_cl c_law_draw (hr.mono (by first | decide | omega)) rfl (pa_cons (pv 0) (pa_cons (pv 1) pa_nil))) (pa_cons (pe_cl c_law_draw (hr.mono (by first | decide | omega)) rfl (pa_cons (pv 0) (pa_cons (pv 1) pa_nil))) (pa_cons pe_str pa_nil)))))))
      (pss_cons (ps_set (i := 5) sc_law_machine.nd rfl (Or.inl rfl) (pe_lst pa_nil))
      (pss_cons (ps_for PassesOwn.never rfl (pi_list (pe_lst (pa_cons pe_str (pa_cons pe_str (pa_cons pe_str pa_nil))))) (pg_name (i := 6) sc_law_machine.nd rfl (Or.inl rfl))
        (pss_one (ps_if (pt_cmpR op_lt (pe_cl c_law_draw (hr.mono (by first | decide | omega)) rfl (pa_cons (pv 0) (pa_cons pe_int pa_nil))) pe_int (nomark _))
          (pss_one (ps_expr (pe_bm PySem.F.plainAttrs_list PySem.F.slot_list_append PySem.F.type_list_append mt_append (pv 5) (pa_cons (pe_tup (pa_cons (pv 6) (pa_cons (pe_ix ix_list (pv 4) (pe_cl c_law_draw (hr.mono (by first | decide | omega)) rfl (pa_cons (pv 0) (pa_cons pe_int pa_nil))) (fun _ _ => rfl)) pa_nil))) pa_nil))))
          pss_nil)))
      (pss_cons (ps_set (i := 7) sc_law_machine.nd rfl (Or.inl rfl) (pe_ix ix_list (pe_lst (pa_cons pe_non (pa_cons pe_non (pa_cons pe_int (pa_cons pe_int (pa_cons (pe_op op_add pe_int (pe_cl c_law_draw (hr.mono (by first | decide | omega)) rfl (pa_cons (pv 0) (pa_cons pe_int pa_nil)))) pa_nil)))))) (pe_cl c_law_draw (hr.mono (by first | decide | omega)) rfl (pa_cons (pv 0) (pa_cons pe_int pa_nil))) (fun _ _ => rfl)))
      (pss_cons (ps_set (i := 8) sc_law_machine.nd rfl (Or.inl rfl) (pe_op op_cat (pe_lst (pa_cons pe_str (pa_cons pe_str (pa_cons pe_str pa_nil)))) (pe_listRg rfl rfl T.m_list (prg_2 rfl T.m_range (pe_op op_add (pv 3) pe_int) (pv 1)))))
      (C8.pss_cut (ps_if (pt_cmp (pc_notN (pv 7)))
        (pss_one (ps_expr (pe_bm PySem.F.plainAttrs_list PySem.F.slot_list_insert PySem.F.type_list_insert mt_insert (pv 5) (pa_cons (pe_cl c_law_draw (hr.mono (by first | decide | omega)) rfl (pa_cons (pv 0) (pa_cons (pe_op op_add (pe_callB call_len_seq (by rfl) T.m_len PySem.boot_len (pa_cons (pv 5) pa_nil)) pe_int) pa_nil))) (pa_cons (pe_tup (pa_cons pe_str (pa_cons (pe_ix ix_list (pv 8) (pe_cl c_law_draw (hr.mono (by first | decide | omega)) rfl (pa_cons (pv 0) (pa_cons (pe_callB call_len_seq (by rfl) T.m_len PySem.boot_len (pa_cons (pv 8) pa_nil)) pa_nil))) (fun _ _ => rfl)) pa_nil))) pa_nil)))))
        pss_nil)
      (pss_one (ps_expr (pe_bm PySem.F.plainAttrs_list PySem.F.slot_list_append PySem.F.type_list_append mt_append (pv 2) (pa_cons (pe_tup (pa_cons (pv 7) (pa_cons (pe_tupleOf rfl T.m_tuple (pv 5)) pa_nil))) pa_nil)))))))))))
    (pss_one (ps_ret (pe_tupleOf rfl T.m_tuple (pv 2))))))), ?_⟩
  refine ⟨_, rfl, t, c, 4, n, rfl, hT, ⟨by decide, by decide⟩, by omega, fun r1 H1 hr1 T1 f1 => ?_⟩
  refine ⟨_, _, rfl, rfl, (by show 0 ≤ sizeLine; decide), ?_⟩
  dsimp only
  generalize hmany : 1 + r1 = many
  (intro st st1; generalize hh_ : upd _ st _ = H2; have hst := upd_is hh_; have sm2 := same_is hh_ st1; clear hh_)
  have stt := T1.ne_new st1
  have stc := T1.ne_newc st1
  have st0 := f1.fresh st1 (not_in_one stt)
  have T2 := T1.same sm2
  have f2 := f1.trans (Fr.same sm2 _)
  refine ⟨_, rfl, many, rfl, (by omega), (by omega), for_range (n := many.toNat) (fun i σ Hx => ∃ (k3 k4 k5 k6 k7 k8 : Option V) (ss : List V), σ = [some (.ref t), some (.int many), some (.ref st), k3, k4, k5, k6, k7, k8] ∧ Hx st = some (.lst ss) ∧ ss.length = i ∧ ImDs Hx 3 ss ∧ TapeAt Hx t c (n + 1 + 20 * i) ∧ Fr [t] H Hx) ?_ ?_ ?_⟩
  · exact ⟨none, none, none, none, none, none, [], rfl, hst, rfl, .nil, T2, f2⟩
  · rintro i σ Hx hi ⟨k3, k4, k5, k6, k7, k8, ss, rfl, hs1, hs2, hs3, Tx, fx⟩
    have hi4 : i < 4 := by omega
    clear k
    refine ⟨_, rfl, _, rfl, t, c, many, _, rfl, Tx, ⟨by omega, by omega⟩, by omega, fun r3 H3 hr3 T3 f3 => ?_⟩
    refine ⟨_, rfl, _, rfl, t, c, many, _, rfl, T3, ⟨by omega, by omega⟩, by omega, fun r4 H4 hr4 T4 f4 => ?_⟩
    refine ⟨(by show 5 ≤ sizeLine; decide), ?_⟩
    (intro en en1; generalize hh_ : upd _ en _ = H5; have hen := upd_is hh_; have sm5 := same_is hh_ en1; clear hh_)
    have ent := T4.ne_new en1
    have T5 := T4.same sm5
    have hs4 := sm5 _ _ (f4 _ _ (f3 _ _ hs1 (not_in_one stt)) (not_in_one stt))
    have g5 := ((f3.trans f4).trans (Fr.same sm5 _))
    have p5 : Tp Hx H5 := Tx.tp g5
    refine ⟨(by show 0 ≤ sizeLine; decide), ?_⟩
    (intro sp sp1; generalize hh_ : upd _ sp _ = H6; have hsp := upd_is hh_; have sm6 := same_is hh_ sp1; clear hh_)
    have spt := T5.ne_new sp1
    have spc := T5.ne_newc sp1
    have sps : sp ≠ st := ne_fresh hs4 sp1
    have spe : sp ≠ en := ne_fresh hen sp1
    have hs5 := sm6 _ _ hs4
    have hen6 := sm6 _ _ hen
    have T6 := T5.same sm6
    have g6 := g5.trans (Fr.same sm6 _)
    have spx := g5.fresh sp1 (not_in_one spt)
    refine ⟨(by show 3 ≤ sizeLine; decide), ?_⟩
    (intro wl wl1; generalize hh_ : upd _ wl _ = H7; have hwl := upd_is hh_; have sm7 := same_is hh_ wl1; clear hh_)
    have wlt := T6.ne_new wl1
    have wls : wl ≠ sp := ne_fresh hsp wl1
    refine ⟨wl, rfl, ⟨_, SqL.of hwl⟩, for_list (K := K) (a := wl) (xs := [.str "up", .str "down", .str "out"]) (fun j σ Hy => ∃ (x6 x7 x8 : Option V) (xs : List V), σ = [some (.ref t), some (.int many), some (.ref st), some (.int (0 + i)), some (.ref en), some (.ref sp), x6, x7, x8] ∧ Hy wl = some (.lst [.str "up", .str "down", .str "out"]) ∧ Hy sp = some (.lst xs) ∧ xs.length ≤ j ∧ ImDs Hy 1 xs ∧ Hy st = some (.lst ss) ∧ Hy en = some (.lst [.str "claim", .str "give", .int r3, .int r4, .str "claim"]) ∧ TapeAt Hy t c (n + 3 + 20 * i + 2 * j) ∧ Fr [t] Hx Hy) ?_ (fun j σ Hy _ ⟨_, _, _, _, _, hh, _⟩ => SqL.of hh) ?_ ?_⟩
    · exact ⟨_, _, _, [], rfl, hwl, sm7 _ _ hsp, Nat.le_refl _, .nil, sm7 _ _ hs5, sm7 _ _ hen6, (T6.same sm7).mono (by omega), g6.trans (Fr.same sm7 _)⟩
    · rintro j x σ Hy hj ⟨x6, x7, x8, xs, rfl, hy1, hy2, hy3, hy4, hy5, hy6, Ty, fy⟩
      have hx : ∃ z : Str, x = .str z := by
        match j, hj with
        | 0, h => exact ⟨_, (Option.some.inj h).symm⟩
        | 1, h => exact ⟨_, (Option.some.inj h).symm⟩
        | 2, h => exact ⟨_, (Option.some.inj h).symm⟩
        | j + 3, h => exact nomatch h
      have hj3 : j < 3 := (List.getElem?_eq_some_iff.mp hj).1
      obtain ⟨z, rfl⟩ := hx
      refine ⟨_, rfl, t, c, 5, _, rfl, Ty, ⟨by decide, by decide⟩, by omega, fun r8 H8 hr8 T8 f8 => ?_⟩
      refine ⟨_, _, rfl, rfl, _, rfl, ?_⟩
      refine ite2 (fun _ => ?_) (fun _ => ?_)
      · have hy2' := f8 _ _ hy2 (not_in_one spt)
        refine ⟨_, rfl, .inl ⟨rfl, _, .inl (.inl hy2')⟩, _, rfl, _, rfl, _, rfl, t, c, 5, _, rfl, T8, ⟨by decide, by decide⟩, by omega, fun r9 H9 hr9 T9 f9 => ?_⟩
        obtain ⟨v9, hv9, e9⟩ := at_in (xs := [V.str "claim", .str "give", .int r3, .int r4, .str "claim"]) hr9.1 hr9.2
        have i9 : ∀ Hz : Hp, ImD Hz 0 v9 := by
          intro Hz
          simp only [List.mem_cons, List.not_mem_nil, or_false] at hv9
          rcases hv9 with rfl | rfl | rfl | rfl | rfl
          · exact .str _
          · exact .str _
          · exact .int _
          · exact .int _
          · exact .str _
        have f89 := f8.trans f9
        refine ⟨en, _, _, _, rfl, rfl, SqL.of (f89 _ _ hy6 (not_in_one ent)), e9, (by show 2 ≤ sizeLine; decide), ?_⟩
        (intro tp tp1; generalize hh_ : upd _ tp _ = Ha; have htp := upd_is hh_; have sma := same_is hh_ tp1; clear hh_)
        have hsa := sma _ _ (f9 _ _ hy2' (not_in_one spt))
        refine ⟨sp, xs, _, rfl, rfl, hsa, Nat.lt_of_lt_of_le (by omega : xs.length < 1000) (sz (by decide : 1000 ≤ 100000)), ?_⟩
        have pa : Tp Hy Ha := (Ty.tp f89).trans (Tp.same sma)
        have pb : Tp Ha (upd Ha sp (.lst (xs ++ [.ref tp]))) := Tp.put hsa
        refine ⟨_, _, _, xs ++ [.ref tp], rfl, by rw [L2.upd_ne wls]; exact sma _ _ (f89 _ _ hy1 (not_in_one wlt)), upd_same, by simp; omega, ?_, by rw [L2.upd_ne sps.symm]; exact sma _ _ (f89 _ _ hy5 (not_in_one stt)), by rw [L2.upd_ne spe.symm]; exact sma _ _ (f89 _ _ hy6 (not_in_one ent)), ((T9.same sma).put spt spc).mono (by omega), fy.upd_new (f89.trans (Fr.same sma _)) spx⟩
        refine ((hy4.tp pa).snoc ?_).tp pb
        exact .tup (n := 0) (.cons (.str _) (.cons (i9 _) .nil)) htp
      · exact ⟨_, _, _, xs, rfl, f8 _ _ hy1 (not_in_one wlt), f8 _ _ hy2 (not_in_one spt), by omega, hy4.tp (Ty.tp f8), f8 _ _ hy5 (not_in_one stt), f8 _ _ hy6 (not_in_one ent), T8.mono (by omega), fy.trans f8⟩
    · rintro σ Hy ⟨x6, x7, x8, xs, rfl, hy1, hy2, hy3, hy4, hy5, hy6, Ty, fy⟩
      have hy3' : xs.length ≤ 3 := hy3
      replace Ty : TapeAt Hy t c (n + 9 + 20 * i) := Ty.mono (by show n + 3 + 20 * i + 2 * 3 ≤ _; omega)
      clear hy1 hy6 hy3 hwl hen6 hsp hs5 sm5 sm6 sm7 f3 f4 g5 g6 hs1 hs4 T3 T4 T5 T6
      refine ⟨_, rfl, t, c, 10000, _, rfl, Ty, ⟨by decide, by decide⟩, by omega, fun r8 H8 hr8 T8 f8 => ?_⟩
      refine ⟨_, _, rfl, rfl, (by show 5 ≤ sizeLine; decide), fun p hp => ⟨_, rfl, pick_draw (xs := [V.non, .non, .int 1, .int 300, .int (1 + r8)]) (i := 5) T8 (by omega) rfl ⟨by simp, by simp⟩ (fun wv H9 hwv T9 f9 => ?_) p hp⟩⟩
      have f89 := f8.trans f9
      have iw : ∀ Hz : Hp, ImD Hz 0 wv := by
        intro Hz
        simp only [List.mem_cons, List.not_mem_nil, or_false] at hwv
        rcases hwv with rfl | rfl | rfl | rfl | rfl
        · exact .non
        · exact .non
        · exact .int _
        · exact .int _
        · exact .int _
      have hy2' := f89 _ _ hy2 (not_in_one spt)
      have hy5' := f89 _ _ hy5 (not_in_one stt)
      have hy4' := hy4.tp (Ty.tp f89)
      have fx9 := fy.trans f89
      refine ⟨(by show 3 ≤ sizeLine; decide), ?_⟩
      (intro l3 l30; generalize hh_ : upd _ l3 _ = H10; have hl3 := upd_is hh_; have sm10 := same_is hh_ l30; clear hh_)
      refine ⟨_, rfl, _, _, rfl, rfl, _, rfl, _, _, rfl, rfl, ⟨by omega, by omega, by omega, by omega, by omega⟩, ?_⟩
      (intro lr lr0; generalize hh_ : upd _ lr _ = H11; have hlr := upd_is hh_; have sm11 := same_is hh_ lr0; clear hh_)
      refine ⟨l3, lr, _, _, rfl, rfl, sm11 _ _ hl3, hlr, (by rw [rgV_len]; show 3 + _ ≤ sizeLine; exact sz (by omega)), ?_⟩
      (intro ll ll0; generalize hh_ : upd _ ll _ = H12; have hll := upd_is hh_; have sm12 := same_is hh_ ll0; clear hh_)
      have smx := (sm10.trans sm11).trans sm12
      have T12 := T9.same smx
      have hy2a := smx _ _ hy2'
      have hy5a := smx _ _ hy5'
      have hy4a := hy4'.tp (Tp.same smx)
      have fx12 := fx9.trans (Fr.same smx _)
      have llt := (T9.same (sm10.trans sm11)).ne_new ll0
      have hlen : 3 ≤ ([V.str "claim", .str "give", .str "claim"] ++ rgV (0 + (i : Int) + 1) many).length ∧ ([V.str "claim", .str "give", .str "claim"] ++ rgV (0 + (i : Int) + 1) many).length ≤ 100 := by
        rw [List.length_append, rgV_len]
        show 3 ≤ 3 + _ ∧ 3 + _ ≤ 100
        omega
      have ilat : ∀ (Hz : Hp), ImDs Hz 0 ([V.str "claim", .str "give", .str "claim"] ++ rgV (0 + (i : Int) + 1) many) := fun Hz => .append (.cons (.str _) (.cons (.str _) (.cons (.str _) .nil))) (rgV_im _ _)
      generalize ([V.str "claim", .str "give", .str "claim"] ++ rgV (0 + (i : Int) + 1) many) = lat at *
      clear hy2 hy5 hy4 hy2' hy5' hy4' fy fx9 f8 f9 f89 hlr hl3 sm10 sm11 sm12 smx T8 T9 Ty
      have spx' : Hx sp = none := spx
      refine ⟨fun σ' H' => ∃ xs', σ' = [some (.ref t), some (.int many), some (.ref st), some (.int (0 + i)), some (.ref en), some (.ref sp), x6, some wv, some (.ref ll)] ∧ H' sp = some (.lst xs') ∧ xs'.length ≤ 4 ∧ ImDs H' 1 xs' ∧ H' st = some (.lst ss) ∧ ImDs H' 3 ss ∧ TapeAt H' t c (n + 18 + 20 * i) ∧ Fr [t] Hx H', ?_, ?_⟩
      · refine ⟨_, rfl, _, rfl, ?_⟩
        refine ite2 (fun _ => ?_) (fun _ => ?_)
        · refine ⟨_, rfl, .inl ⟨rfl, _, .inl (.inl hy2a)⟩, _, rfl, _, rfl, sp, _, rfl, .inl (SqL.of hy2a), _, _, rfl, rfl, t, c, _, _, rfl, T12, ⟨by omega, by omega⟩, by omega, fun r13 H13 hr13 T13 f13 => ?_⟩
          refine ⟨_, rfl, _, rfl, _, rfl, ll, _, rfl, .inl (SqL.of (f13 _ _ hll (not_in_one llt))), t, c, _, _, rfl, T13, ⟨by omega, by omega⟩, by omega, fun r14 H14 hr14 T14 f14 => ?_⟩
          have f134 := f13.trans f14
          obtain ⟨v9, hv9, e9⟩ := at_in (xs := lat) hr14.1 hr14.2
          refine ⟨ll, _, _, _, rfl, rfl, SqL.of (f134 _ _ hll (not_in_one llt)), e9, (by show 2 ≤ sizeLine; decide), ?_⟩
          (intro tp tp1; generalize hh_ : upd _ tp _ = Ha; have htp := upd_is hh_; have sma := same_is hh_ tp1; clear hh_)
          have hsa := sma _ _ (f134 _ _ hy2a (not_in_one spt))
          have pa : Tp _ Ha := (T12.tp f134).trans (Tp.same sma)
          refine ⟨sp, xs, _, _, rfl, rfl, hsa, Nat.lt_of_lt_of_le (by omega : xs.length < 1000) (sz (by decide : 1000 ≤ 100000)), by omega, by omega, ?_⟩
          refine ⟨_, rfl, upd_same, ?_, ?_, by rw [L2.upd_ne sps.symm]; exact sma _ _ (f134 _ _ hy5a (not_in_one stt)), (hs3.tp ((Tx.tp fx12).trans pa)).tp (Tp.put hsa), ((T14.same sma).put spt spc).mono (by omega), fx12.upd_new (f134.trans (Fr.same sma _)) spx⟩
          · rw [List.length_append, List.length_append, List.length_take, List.length_drop]
            show min _ _ + 1 + _ ≤ 4
            omega
          · refine ImDs.tp ?_ (Tp.put hsa)
            have hx := hy4a.tp pa
            refine .append (.append (fun v hv => hx v (List.mem_of_mem_take hv)) ?_) (fun v hv => hx v (List.mem_of_mem_drop hv))
            exact .cons (.tup (n := 0) (.cons (.str _) (.cons (ilat _ _ hv9) .nil)) htp) .nil
        · exact ⟨xs, rfl, hy2a, by omega, hy4a, hy5a, hs3.tp (Tx.tp fx12), T12.mono (by omega), fx12⟩
      · rintro σ' H' ⟨xs', rfl, a1, a2, a3, a4, a5, a6, a7⟩
        refine ⟨_, rfl, .inl ⟨rfl, _, .inl (.inl a4)⟩, _, rfl, _, rfl, .inl ⟨sp, xs', rfl, SqL.of a1, ?_⟩⟩
        (intro q1 q10; generalize hh_ : upd _ q1 _ = Ha; have hq1 := upd_is hh_; have sma := same_is hh_ q10; clear hh_)
        refine ⟨(by show 2 ≤ sizeLine; decide), ?_⟩
        (intro q2 q20; generalize hh_ : upd _ q2 _ = Hb; have hq2 := upd_is hh_; have smb := same_is hh_ q20; clear hh_)
        have sab := sma.trans smb
        have hst2 := sab _ _ a4
        refine ⟨st, ss, _, rfl, rfl, hst2, Nat.lt_of_lt_of_le (by omega : ss.length < 1000) (sz (by decide : 1000 ≤ 100000)), ?_⟩
        refine ⟨_, _, _, _, _, _, ss ++ [.ref q2], rfl, upd_same, by simp [hs2], ?_, ((a6.same sab).put stt stc).mono (by omega), fx.upd_new (a7.trans (Fr.same sab _)) st0⟩
        refine ImDs.tp ?_ (Tp.put hst2)
        refine (a5.tp (Tp.same sab)).snoc ?_
        have i1 : ImD Ha 2 (.ref q1) := .tup (n := 1) (a3.tp (Tp.same sma)) hq1
        exact .tup (n := 2) (.cons ((iw _).mono (by decide)) (.cons (i1.tp (Tp.same smb)) .nil)) hq2
  · rintro σ Hx ⟨k3, k4, k5, k6, k7, k8, ss, rfl, hs1, hs2, hs3, Tx, fx⟩
    refine ⟨_, rfl, .inl ⟨st, ss, rfl, SqL.of hs1, ?_⟩⟩
    (intro q1 q10; generalize hh_ : upd _ q1 _ = Ha; have hq1 := upd_is hh_; have sma := same_is hh_ q10; clear hh_)
    exact k q1 Ha (.tup (n := 3) (hs3.tp (Tp.same sma)) hq1) ((Tx.same sma).mono (by omega)) (fx.trans (Fr.same sma _))
end
end SG
namespace SG
open PySem PySem.Spec PyProof.Rows L2
/-! ### wishes -/
def spWish : Sp := fun vs H Q _ => ∃ (t c : Addr) (n : Nat) (lab : Str), vs = [.ref t, .str lab] ∧ TapeAt H t c n ∧ n ≤ 90000000 ∧
  ∀ (v : V) (H' : Hp), ImD H' 5 v → TapeAt H' t c (n + 110) → Fr [t] H H' → Q v H'
theorem im3 {H : Hp} {a : Addr} {x y z : V} (e : H a = some (.tup [x, y, z])) (hx : ∀ Hz, ImD Hz 0 x) (hy : ∀ Hz, ImD Hz 0 y) (hz : ∀ Hz, ImD Hz 0 z) : ImD H 1 (.ref a) :=
  .tup (n := 0) (.cons (hx _) (.cons (hy _) (.cons (hz _) .nil))) e
theorem im2 {H : Hp} {a : Addr} {x y : V} (e : H a = some (.tup [x, y])) (hx : ∀ Hz, ImD Hz 0 x) (hy : ∀ Hz, ImD Hz 0 y) : ImD H 1 (.ref a) :=
  .tup (n := 0) (.cons (hx _) (.cons (hy _) .nil)) e
section
variable {P : Program} {w : World} {K : PySem.W.Frag} {mg : Str → Option Value} {base : Heap}
theorem ok_wish (D : Df K mg "_law_wish" s_law_wish ["_law_tape_here", "_law_label"]) (T : Txt K mg) (c_law_draw : Cl P w K mg base 1 "_law_draw" spDraw) (c_law_machine : Cl P w K mg base 2 "_law_machine" spMachine) : Cl P w K mg base 3 "_law_wish" spWish := by
  refine D.ok sc_law_wish (fun vs H Q E h => ?_) (fun f cdv A outer s H vs Q E hr h => ?_)
  · obtain ⟨t, c, n, lab, rfl, _⟩ := h
    rfl
  obtain ⟨t, c, n, lab, rfl, hT, hn, k⟩ := h
  have hu := hu_of hr
  refine ⟨_, -- _law_wait = [500, 1, 10, 300, 1 + _law_draw(_law_tape_here, 10000)][_law_draw(_law_tape_here, 5)]
    (pss_cons (ps_set (i := 2) sc_law_wish.nd rfl (Or.inl rfl) (pe_ix ix_list (pe_lst (pa_cons pe_int (pa_cons pe_int (pa_cons pe_int (pa_cons pe_int (pa_cons (pe_op op_add pe_int (pe_cl c_law_draw (hr.mono (by first | decide | omega)) rfl (pa_cons (pv 0) (pa_cons pe_int pa_nil)))) pa_nil)))))) (pe_cl c_law_draw (hr.mono (by first | decide | omega)) rfl (pa_cons (pv 0) (pa_cons pe_int pa_nil))) (fun _ _ => rfl)))
    (pss_cons (ps_set (i := 3) sc_law_wish.nd rfl (Or.inl rfl) (pe_lst (pa_cons (pe_tup (pa_cons pe_str (pa_cons (pv 1) (pa_cons (pe_op op_add pe_int (pe_cl c_law_draw (hr.mono (by first | decide | omega)) rfl (pa_cons (pv 0) (pa_cons pe_int pa_nil)))) pa_nil)))) (pa_cons (pe_tup (pa_cons pe_str (pa_cons (pv 1) (pa_cons (pv 2) pa_nil)))) (pa_cons (pe_tup (pa_cons pe_str (pa_cons (pv 1) pa_nil))) (pa_cons (pe_tup (pa_cons pe_str (pa_cons (pv 1) pa_nil))) pa_nil))))))
    (pss_cons (ps_set (i := 3) sc_law_wish.nd rfl (Or.inl rfl) (pe_op op_cat (pv 3) (pe_lst (pa_cons (pe_tup (pa_cons pe_str (pa_cons (pv 1) (pa_cons pe_str pa_nil)))) (pa_cons (pe_tup (pa_cons pe_str (pa_cons (pv 1) (pa_cons pe_str pa_nil)))) (pa_cons (pe_tup (pa_cons pe_str (pa_cons (pv 1) (pa_cons pe_str pa_nil)))) (pa_cons (pe_tup (pa_cons pe_str (pa_cons (pv 1) (pa_cons pe_int pa_nil)))) pa_nil)))))))
    (pss_cons (ps_set (i := 4) sc_law_wish.nd rfl (Or.inl rfl) (pe_cl c_law_draw (hr.mono (by first | decide | omega)) rfl (pa_cons (pv 0) (pa_cons pe_int pa_nil))))
    (pss_one (ps_ret (pe_ifExp (pt_cmpR op_lt (pv 4) pe_int (nomark _)) (pe_ix ix_list (pv 3) (pv 4) (fun _ _ => rfl)) (pe_tup (pa_cons pe_str (pa_cons (pv 1) (pa_cons (pe_cl c_law_machine (hr.mono (by first | decide | omega)) rfl (pa_cons (pv 0) pa_nil)) pa_nil))))))))))), ?_⟩
  refine ⟨_, rfl, t, c, 10000, _, rfl, hT, ⟨by decide, by decide⟩, by omega, fun r1 H1 hr1 T1 f1 => ?_⟩
  refine ⟨_, _, rfl, rfl, (by show 5 ≤ sizeLine; decide), fun p hp => ⟨_, rfl, pick_draw (xs := [.int 500, .int 1, .int 10, .int 300, .int (1 + r1)]) (i := 5) T1 (by omega) rfl ⟨by simp, by simp⟩ (fun wv H2 hwv T2 f2 => ?_) p hp⟩⟩
  have iw : ∀ Hz : Hp, ImD Hz 0 wv := by
    intro Hz
    simp only [List.mem_cons, List.not_mem_nil, or_false] at hwv
    rcases hwv with rfl | rfl | rfl | rfl | rfl
    all_goals exact .int _
  have f02 := f1.trans f2
  clear f1 f2 hwv
  refine ⟨_, rfl, _, rfl, t, c, 3, _, rfl, T2, ⟨by decide, by decide⟩, by omega, fun r3 H3 hr3 T3 f3 => ?_⟩
  refine ⟨_, _, rfl, rfl, (by show 3 ≤ sizeLine; decide), ?_⟩
  (intro q1 q10; generalize hh_ : upd _ q1 _ = Ha; have hq1 := upd_is hh_; have sma := same_is hh_ q10; clear hh_)
  refine ⟨_, rfl, _, rfl, (by show 3 ≤ sizeLine; decide), ?_⟩
  (intro q2 q20; generalize hh_ : upd _ q2 _ = Hb; have hq2 := upd_is hh_; have smb := same_is hh_ q20; clear hh_)
  refine ⟨_, rfl, (by show 2 ≤ sizeLine; decide), ?_⟩
  (intro q3 q30; generalize hh_ : upd _ q3 _ = Hc; have hq3 := upd_is hh_; have smc := same_is hh_ q30; clear hh_)
  refine ⟨_, rfl, (by show 2 ≤ sizeLine; decide), ?_⟩
  (intro q4 q40; generalize hh_ : upd _ q4 _ = Hd; have hq4 := upd_is hh_; have smd := same_is hh_ q40; clear hh_)
  refine ⟨(by show 4 ≤ sizeLine; decide), ?_⟩
  (intro l1 l10; generalize hh_ : upd _ l1 _ = He; have hl1 := upd_is hh_; have sme := same_is hh_ l10; clear hh_)
  have is1 : ImDs He 1 [.ref q1, .ref q2, .ref q3, .ref q4] := by
    refine .cons (im3 (((smb.trans smc).trans (smd.trans sme)) _ _ hq1) (fun _ => .str _) (fun _ => .str _) (fun _ => .int _)) ?_
    refine .cons (im3 ((smc.trans (smd.trans sme)) _ _ hq2) (fun _ => .str _) (fun _ => .str _) iw) ?_
    refine .cons (im2 ((smd.trans sme) _ _ hq3) (fun _ => .str _) (fun _ => .str _)) ?_
    exact .cons (im2 (sme _ _ hq4) (fun _ => .str _) (fun _ => .str _)) .nil
  have s1 := ((sma.trans smb).trans (smc.trans smd)).trans sme
  have T4 := T3.same s1
  have f04 := (f02.trans f3).trans (Fr.same s1 _)
  have n1 : ([V.ref q1, .ref q2, .ref q3, .ref q4] : List V).length = 4 := rfl
  generalize ([V.ref q1, .ref q2, .ref q3, .ref q4] : List V) = ls1 at *
  clear sma smb smc smd sme hq1 hq2 hq3 hq4 s1 f02 f3 T1 T2 T3
  refine ⟨_, rfl, _, rfl, (by show 3 ≤ sizeLine; decide), ?_⟩
  (intro q5 q50; generalize hh_ : upd _ q5 _ = Ha; have hq1 := upd_is hh_; have sma := same_is hh_ q50; clear hh_)
  refine ⟨_, rfl, (by show 3 ≤ sizeLine; decide), ?_⟩
  (intro q6 q60; generalize hh_ : upd _ q6 _ = Hb; have hq2 := upd_is hh_; have smb := same_is hh_ q60; clear hh_)
  refine ⟨_, rfl, (by show 3 ≤ sizeLine; decide), ?_⟩
  (intro q7 q70; generalize hh_ : upd _ q7 _ = Hc; have hq3 := upd_is hh_; have smc := same_is hh_ q70; clear hh_)
  refine ⟨_, rfl, (by show 3 ≤ sizeLine; decide), ?_⟩
  (intro q8 q80; generalize hh_ : upd _ q8 _ = Hd; have hq4 := upd_is hh_; have smd := same_is hh_ q80; clear hh_)
  refine ⟨(by show 4 ≤ sizeLine; decide), ?_⟩
  (intro l2 l20; generalize hh_ : upd _ l2 _ = Hf; have hl2 := upd_is hh_; have sme := same_is hh_ l20; clear hh_)
  have is2 : ImDs Hf 1 [.ref q5, .ref q6, .ref q7, .ref q8] := by
    refine .cons (im3 (((smb.trans smc).trans (smd.trans sme)) _ _ hq1) (fun _ => .str _) (fun _ => .str _) (fun _ => .str _)) ?_
    refine .cons (im3 ((smc.trans (smd.trans sme)) _ _ hq2) (fun _ => .str _) (fun _ => .str _) (fun _ => .str _)) ?_
    refine .cons (im3 ((smd.trans sme) _ _ hq3) (fun _ => .str _) (fun _ => .str _) (fun _ => .str _)) ?_
    exact .cons (im3 (sme _ _ hq4) (fun _ => .str _) (fun _ => .str _) (fun _ => .int _)) .nil
  have s2 := ((sma.trans smb).trans (smc.trans smd)).trans sme
  have n2 : ([V.ref q5, .ref q6, .ref q7, .ref q8] : List V).length = 4 := rfl
  generalize ([V.ref q5, .ref q6, .ref q7, .ref q8] : List V) = ls2 at *
  refine ⟨l1, l2, _, _, rfl, rfl, s2 _ _ hl1, hl2, sz (by omega), ?_⟩
  (intro l3 l30; generalize hh_ : upd _ l3 _ = Hg; have hl3 := upd_is hh_; have smg := same_is hh_ l30; clear hh_)
  have s3 := s2.trans smg
  have is3 : ImDs Hg 1 (ls1 ++ ls2) := .append (is1.tp (Tp.same s3)) (is2.tp (Tp.same smg))
  have T5 := T4.same s3
  have f05 := f04.trans (Fr.same s3 _)
  have l3t := (T4.same s2).ne_new l30
  refine ⟨_, rfl, t, c, 9, _, rfl, T5, ⟨by decide, by decide⟩, by omega, fun r6 H6 hr6 T6 f6 => ?_⟩
  have f06 := f05.trans f6
  refine ⟨_, rfl, _, _, rfl, rfl, _, rfl, ?_⟩
  refine ite2 (fun p6 => ?_) (fun p6 => ?_)
  · have p6' : r6 < 8 := of_decide_eq_true p6
    obtain ⟨v, hv, e⟩ := at_in (xs := ls1 ++ ls2) hr6.1 (by rw [List.length_append]; omega)
    refine ⟨_, rfl, _, rfl, l3, _, _, _, rfl, rfl, SqL.of (f6 _ _ hl3 (not_in_one l3t)), e, ?_⟩
    exact k v H6 (((is3 v hv).tp (T5.tp f6)).mono (by decide)) (T6.mono (by omega)) f06
  · refine ⟨_, rfl, _, rfl, t, c, _, rfl, T6, by omega, fun a H7 ia T7 f7 => ?_⟩
    refine ⟨(by show 3 ≤ sizeLine; decide), ?_⟩
    (intro l4 l40; generalize hh_ : upd _ l4 _ = Hh; have hl4 := upd_is hh_; have smh := same_is hh_ l40; clear hh_)
    refine k (.ref l4) Hh ?_ ((T7.same smh).mono (by omega)) ((f06.trans f7).trans (Fr.same smh _))
    exact .tup (n := 4) (.cons (.str _) (.cons (.str _) (.cons (ia.tp (Tp.same smh)) .nil))) hl4
end
end SG
namespace SG
open PySem PySem.Spec PyProof.Rows L2
/-! ### parts, as they stand: by depth; the parts of each in their order, outer ones first -/
structure Rec where
  at_ : Addr
  name : Str
  ws : List V
def ShelfAt (H : Hp) (sh : V) : Prop := sh = .non ∨ ∃ (q : Addr) (z : Str) (i j : Int), sh = .ref q ∧ H q = some (.tup [.str z, .int i, .int j])
def PartsAt (P : Addr → List Rec → Prop) : List Addr → List Rec → Prop
  | [], rs => rs = []
  | a :: as, rs => ∃ r1 r2, P a r1 ∧ PartsAt P as r2 ∧ rs = r1 ++ r2
def PartAt (H : Hp) : Nat → Addr → List Rec → Prop
  | 0, _, _ => False
  | d + 1, a, rs => ∃ (bx ws ks : Addr) (nm : Str) (ear sh : V) (x y w h : Int) (wvs : List V) (kas : List Addr) (rest : List Rec),
      H a = some (.tup [.str nm, .ref bx, ear, sh, .ref ws, .ref ks]) ∧ H bx = some (.tup [.int x, .int y, .int w, .int h]) ∧ ShelfAt H sh ∧ H ws = some (.tup wvs) ∧ ImDs H 5 wvs ∧ wvs.length ≤ 6 ∧
      H ks = some (.tup (kas.map V.ref)) ∧ PartsAt (PartAt H d) kas rest ∧ rs = ⟨a, nm, wvs⟩ :: rest
theorem PartsAt.snoc {P : Addr → List Rec → Prop} {a : Addr} {r : List Rec} (h : P a r) : ∀ {as : List Addr} {rs : List Rec}, PartsAt P as rs → PartsAt P (as ++ [a]) (rs ++ r)
  | [], rs, e => ⟨r, [], h, rfl, by rw [show rs = [] from e]; simp⟩
  | b :: bs, rs, e => by
    obtain ⟨r1, r2, h1, h2, rfl⟩ := e
    exact ⟨r1, r2 ++ r, h1, h2.snoc h, by rw [List.append_assoc]⟩
theorem PartsAt.imp {P P' : Addr → List Rec → Prop} (h : ∀ a r, P a r → P' a r) : ∀ {as : List Addr} {rs : List Rec}, PartsAt P as rs → PartsAt P' as rs
  | [], _, e => e
  | _ :: _, _, e => by
    obtain ⟨r1, r2, h1, h2, h3⟩ := e
    exact ⟨r1, r2, h _ _ h1, h2.imp h, h3⟩
theorem ShelfAt.tp {H H' : Hp} {v : V} (h : ShelfAt H v) (t : Tp H H') : ShelfAt H' v := by
  rcases h with h | ⟨q, z, i, j, h1, h2⟩
  · exact .inl h
  · exact .inr ⟨q, z, i, j, h1, t _ _ h2⟩
theorem PartAt.tp {H H' : Hp} (t : Tp H H') : ∀ {d : Nat} {a : Addr} {rs : List Rec}, PartAt H d a rs → PartAt H' d a rs
  | 0, _, _, h => h
  | d + 1, a, rs, h => by
    obtain ⟨bx, ws, ks, nm, ear, sh, x, y, w, h', wvs, kas, rest, h1, h2, h3, h4, h5, h6, h7, h8, h9⟩ := h
    exact ⟨bx, ws, ks, nm, ear, sh, x, y, w, h', wvs, kas, rest, t _ _ h1, t _ _ h2, h3.tp t, t _ _ h4, h5.tp t, h6, t _ _ h7, h8.imp fun _ _ q => q.tp t, h9⟩
/-! ### the room -/
def roomD (nl ll : Addr) (left deep : Int) : List (Key × V) := [(Sum.inr "names", .ref nl), (Sum.inr "labels", .ref ll), (Sum.inr "left", .int left), (Sum.inr "deep", .int deep)]
structure RoomAt (H : Hp) (r nl ll : Addr) (ns ls : List Str) (left deep : Int) : Prop where
  ob : H r = some (.dK (roomD nl ll left deep))
  nm : H nl = some (.lst (ns.map V.str))
  lb : H ll = some (.lst (ls.map V.str))
theorem m12 : ¬ ("names" : Str) = ("labels" : Str) := by decide +kernel
theorem m13 : ¬ ("names" : Str) = ("left" : Str) := by decide +kernel
theorem m14 : ¬ ("names" : Str) = ("deep" : Str) := by decide +kernel
theorem m23 : ¬ ("labels" : Str) = ("left" : Str) := by decide +kernel
theorem m24 : ¬ ("labels" : Str) = ("deep" : Str) := by decide +kernel
theorem m34 : ¬ ("left" : Str) = ("deep" : Str) := by decide +kernel
theorem m43 : ¬ ("deep" : Str) = ("left" : Str) := by decide +kernel
section
variable {H H' : Hp} {r nl ll t c p : Addr} {ns ls : List Str} {left deep v : Int} {n : Nat}
theorem dget_of {kvs : List (Key × V)} {k : Str} {o : Option V} (h : H r = some (.dK kvs)) (e : valV kvs (Sum.inr k : Key) = o) : DGet H r (.str k) o := by
  have q := DGet.k (k := Sum.inr k) h
  rw [e] at q
  exact q
theorem dput_of {kvs ls : List (Key × V)} {k : Str} {v : V} (h : H r = some (.dK kvs)) (e : putK kvs (Sum.inr k : Key) v = ls) (hl : kvs.length ≤ 1000) : DPut H r (.str k) v (upd H r (.dK ls)) := by
  have q := DPut.k (k := Sum.inr k) (v := v) h (small1000 hl)
  rw [e] at q
  exact q
theorem RoomAt.g_names (h : RoomAt H r nl ll ns ls left deep) : DGet H r (.str "names") (some (.ref nl)) := dget_of h.ob (by simp [valV, roomD])
theorem RoomAt.g_labels (h : RoomAt H r nl ll ns ls left deep) : DGet H r (.str "labels") (some (.ref ll)) := dget_of h.ob (by simp [valV, roomD, m12])
theorem RoomAt.g_left (h : RoomAt H r nl ll ns ls left deep) : DGet H r (.str "left") (some (.int left)) := dget_of h.ob (by simp [valV, roomD, m13, m23])
theorem RoomAt.g_deep (h : RoomAt H r nl ll ns ls left deep) : DGet H r (.str "deep") (some (.int deep)) := dget_of h.ob (by simp [valV, roomD, m14, m24, m34])
theorem RoomAt.put_left (h : RoomAt H r nl ll ns ls left deep) : DPut H r (.str "left") (.int v) (upd H r (.dK (roomD nl ll v deep))) := dput_of h.ob (by simp [putK, roomD, m13, m23, m43]) (by show 4 ≤ 1000; decide)
theorem RoomAt.put_deep (h : RoomAt H r nl ll ns ls left deep) : DPut H r (.str "deep") (.int v) (upd H r (.dK (roomD nl ll left v))) := dput_of h.ob (by simp [putK, roomD, m14, m24, m34]) (by show 4 ≤ 1000; decide)
theorem RoomAt.same (h : RoomAt H r nl ll ns ls left deep) (s : Same H H') : RoomAt H' r nl ll ns ls left deep := ⟨s _ _ h.ob, s _ _ h.nm, s _ _ h.lb⟩
theorem RoomAt.fr (h : RoomAt H r nl ll ns ls left deep) (T : TapeAt H t c n) (rt : r ≠ t) (f : Fr [t] H H') : RoomAt H' r nl ll ns ls left deep :=
  ⟨f _ _ h.ob (not_in_one rt), f _ _ h.nm (not_in_one (T.ne_lst h.nm)), f _ _ h.lb (not_in_one (T.ne_lst h.lb))⟩
theorem RoomAt.put {o : HO} (h : RoomAt H r nl ll ns ls left deep) (h1 : p ≠ r) (h2 : p ≠ nl) (h3 : p ≠ ll) : RoomAt (upd H p o) r nl ll ns ls left deep :=
  ⟨by rw [upd_ne h1.symm]; exact h.ob, by rw [upd_ne h2.symm]; exact h.nm, by rw [upd_ne h3.symm]; exact h.lb⟩
theorem RoomAt.r_nl (h : RoomAt H r nl ll ns ls left deep) : r ≠ nl := ne_of h.ob h.nm (by intro z; cases z)
theorem RoomAt.r_ll (h : RoomAt H r nl ll ns ls left deep) : r ≠ ll := ne_of h.ob h.lb (by intro z; cases z)
theorem dp_strs {K : PySem.W.Frag} : ∀ ws : List Str, DpAll K H (ws.map V.str) (ws.map PyData.str)
  | [] => .nil
  | x :: r => .cons (.str x) (dp_strs r)
theorem dp_strL {K : PySem.W.Frag} {ws : List Str} (h : H p = some (.lst (ws.map V.str))) : Dp K H (.ref p) (.list (ws.map PyData.str)) := .lst (SqL.of h) (dp_strs ws)
theorem plain_strs : ∀ ws : List Str, PyData.plainAll (ws.map PyData.str) = true
  | [] => rfl
  | x :: r => by
    show (true && PyData.plainAll (r.map PyData.str)) = true
    rw [plain_strs r]; rfl
theorem depth_strs : ∀ ws : List Str, PyData.depthAll (ws.map PyData.str) = 0
  | [] => rfl
  | x :: r => by
    show max 0 (PyData.depthAll (r.map PyData.str)) = 0
    rw [depth_strs r]; rfl
end
section
variable {H H' H1 : Hp} {r nl ll t c p wl : Addr} {ns ls : List Str} {left deep v : Int} {n : Nat}
theorem seq0 {n : Nat} (h : 0 < n) : seqIndex? 0 n = some 0 := by
  unfold seqIndex?
  simp [h]
theorem eqv_nil (ws : List Str) : PyData.eqv (.list (ws.map PyData.str)) (.list (([] : List Str).map PyData.str)) = ws.isEmpty := by
  cases ws <;> simp [PyData.eqv, PyData.eqvAll]
theorem RoomAt.pop_names {nm : Str} (h : RoomAt H r nl ll (nm :: ns) ls left deep) (q : nl ≠ ll) : RoomAt (upd H nl (.lst (ns.map V.str))) r nl ll ns ls left deep :=
  ⟨by rw [upd_ne h.r_nl]; exact h.ob, upd_same, by rw [upd_ne q.symm]; exact h.lb⟩
theorem RoomAt.pop_labels {lb : Str} (h : RoomAt H r nl ll ns (lb :: ls) left deep) (q : nl ≠ ll) : RoomAt (upd H ll (.lst (ls.map V.str))) r nl ll ns ls left deep :=
  ⟨by rw [upd_ne h.r_ll]; exact h.ob, by rw [upd_ne q]; exact h.nm, upd_same⟩
theorem RoomAt.to_left (h : RoomAt H r nl ll ns ls left deep) : RoomAt (upd H r (.dK (roomD nl ll v deep))) r nl ll ns ls v deep :=
  ⟨upd_same, by rw [upd_ne h.r_nl.symm]; exact h.nm, by rw [upd_ne h.r_ll.symm]; exact h.lb⟩
theorem RoomAt.to_deep (h : RoomAt H r nl ll ns ls left deep) : RoomAt (upd H r (.dK (roomD nl ll left v))) r nl ll ns ls left v :=
  ⟨upd_same, by rw [upd_ne h.r_nl.symm]; exact h.nm, by rw [upd_ne h.r_ll.symm]; exact h.lb⟩
theorem Fr.t4 {t r nl ll : Addr} (f : Fr [t] H H') : Fr [t, r, nl, ll] H H' := f.mono fun x hx => by
  rw [List.mem_singleton.mp hx]; simp
theorem off4 {p t r nl ll : Addr} (h1 : p ≠ t) (h2 : p ≠ r) (h3 : p ≠ nl) (h4 : p ≠ ll) : p ∉ [t, r, nl, ll] := by
  simp [h1, h2, h3, h4]
theorem Fr4.tp {k1 k2 : List (Key × V)} {x1 x2 : List V} {t r nl ll : Addr} (f : Fr [t, r, nl, ll] H H') (h1 : H t = some (.dK k1)) (h2 : H r = some (.dK k2)) (h3 : H nl = some (.lst x1)) (h4 : H ll = some (.lst x2)) : Tp H H' := fun b xs e =>
  f _ _ e (off4 (ne_of e h1 (by intro z; cases z)) (ne_of e h2 (by intro z; cases z)) (ne_of e h3 (by intro z; cases z)) (ne_of e h4 (by intro z; cases z)))
end
theorem at2 {x y z v : V} : atI [x, y, z, v] 2 = some z := atI_nat (j := 2) rfl
theorem at3 {x y z v : V} : atI [x, y, z, v] 3 = some v := atI_nat (j := 3) rfl
/-- [..][_law_draw(tape, m)] if p else 0 -/
theorem if_pick {K : PySem.W.Frag} {H : Hp} {t c : Addr} {n : Nat} {xs : List V} {i : Int} {p : Prop} [Decidable p] {A B : Prop} {Q : VK} (hT : TapeAt H t c n) (hn : n ≤ 1000000000) (hm : i = (xs.length : Int)) (hx : 1 ≤ xs.length ∧ xs.length ≤ 1000)
    (hA : (xs.length ≤ sizeLine ∧ ∀ q, H q = none → spDraw [.ref t, .int i] (upd H q (.lst xs)) (fun y H2 => rIxL K (.ref q) y H2 Q) E0) → A) (hB : Q (.int 0) H → B)
    (k : ∀ v H', (p ∧ v ∈ xs) ∨ v = .int 0 → TapeAt H' t c (n + 1) → Fr [t] H H' → Q v H') : if decide p = true then A else B := by
  by_cases hp : p
  · rw [decide_eq_true hp]
    refine iteT (hA ⟨sl1000 hx.2, pick_draw hT hn hm hx fun v H' hv T' F' => k v H' (.inl ⟨hp, hv⟩) T' F'⟩)
  · rw [decide_eq_false hp]
    exact iteF (hB (k _ _ (.inr rfl) (hT.mono (by omega)) (Fr.refl _ _)))
def spPart (d : Nat) : Sp := fun vs H Q _ => ∃ (t c bx r nl ll : Addr) (n left : Nat) (ns ls : List Str) (x y w h : Int), vs = [.ref t, .ref bx, .ref r] ∧ TapeAt H t c n ∧ H bx = some (.tup [.int x, .int y, .int w, .int h]) ∧ (1 ≤ w ∧ w ≤ 1000 ∧ 1 ≤ h ∧ h ≤ 1000) ∧
  RoomAt H r nl ll ns ls (left : Int) (d : Int) ∧ (r ≠ t ∧ nl ≠ ll ∧ nl ≠ c ∧ ll ≠ c) ∧ ns.length = left + 1 ∧ left ≤ 29 ∧ n + 1000 * (left + 1) ≤ 50000000 ∧
  ∀ (a : Addr) (rs : List Rec) (ns' ls' : List Str) (left' : Nat) (H' : Hp), PartAt H' (d + 1) a rs → TapeAt H' t c (n + 1000 * rs.length) → RoomAt H' r nl ll ns' ls' (left' : Int) (d : Int) → ns'.length = left' → left' + rs.length = left + 1 → Fr [t, r, nl, ll] H H' → Q (.ref a) H'
section
variable {P : Program} {w : World} {K : PySem.W.Frag} {mg : Str → Option Value} {base : Heap}
theorem no_part {D : Df K mg "_law_part" s_law_part ["_law_tape_here", "_law_box", "_law_room"]} : Cl P w K mg base 0 "_law_part" spNone := D.none fun _ _ _ _ h => h
theorem ok_part (D : Df K mg "_law_part" s_law_part ["_law_tape_here", "_law_box", "_law_room"]) (T : Txt K mg) (c_law_draw : Cl P w K mg base 1 "_law_draw" spDraw) (c_law_wish : Cl P w K mg base 3 "_law_wish" spWish) {d : Nat} {sp0 : Sp}
    (c_law_part : Cl P w K mg base (d + 3) "_law_part" sp0) (hsp : ∀ d', d = d' + 1 → sp0 = spPart d') : Cl P w K mg base (d + 4) "_law_part" (spPart d) := by
  refine D.ok sc_law_part (fun vs H Q E h => ?_) (fun f cdv A outer s H vs Q E hr h => ?_)
  · obtain ⟨t, c, bx, r, nl, ll, n, left, ns, ls, x, y, w, h, rfl, _⟩ := h
    rfl
  obtain ⟨t, c, bx, r, nl, ll, n, left, ns, ls, x, y, w, h, rfl, hT, hbx, hwh, hR, ⟨rt, nll, nlc, llc⟩, hns, hleft, hn, k⟩ := h
  have hu := hu_of hr
  refine ⟨_, -- _law_name = _law_room['names'].pop(0)
    (pss_cons (ps_set (i := 3) sc_law_part.nd rfl (Or.inl rfl) (pe_bm PySem.F.plainAttrs_list PySem.F.slot_list_pop PySem.F.type_list_pop mt_popAt (pe_dget hu (pv 2) pe_str (fun _ _ => rfl)) (pa_cons pe_int pa_nil)))
    (pss_cons (ps_set (i := 4) sc_law_part.nd rfl (Or.inl rfl) (pe_ix ix_list (pe_lst (pa_cons pe_non (pa_cons pe_non (pa_cons pe_str (pa_cons pe_str pa_nil))))) (pe_cl c_law_draw (hr.mono (by first | decide | omega)) rfl (pa_cons (pv 0) (pa_cons pe_int pa_nil))) (fun _ _ => rfl)))
    (pss_cons (ps_set (i := 5) sc_law_part.nd rfl (Or.inl rfl) (pe_tup (pa_cons (pe_ix ix_list (pe_lst (pa_cons pe_str (pa_cons pe_str pa_nil))) (pe_cl c_law_draw (hr.mono (by first | decide | omega)) rfl (pa_cons (pv 0) (pa_cons pe_int pa_nil))) (fun _ _ => rfl)) (pa_cons (pe_op op_sub pe_int (pe_cl c_law_draw (hr.mono (by first | decide | omega)) rfl (pa_cons (pv 0) (pa_cons pe_int pa_nil)))) (pa_cons (pe_cl c_law_draw (hr.mono (by first | decide | omega)) rfl (pa_cons (pv 0) (pa_cons pe_int pa_nil))) pa_nil)))))
    (pss_cons (ps_set (i := 6) sc_law_part.nd rfl (Or.inl rfl) (pe_lst pa_nil))
    (pss_cons (ps_for PassesOwn.never rfl (pi_range1 rfl T.m_range (pa_cons (pe_ix ix_list (pe_lst (pa_cons pe_int (pa_cons pe_int (pa_cons pe_int (pa_cons pe_int (pa_cons pe_int (pa_cons pe_int pa_nil))))))) (pe_cl c_law_draw (hr.mono (by first | decide | omega)) rfl (pa_cons (pv 0) (pa_cons pe_int pa_nil))) (fun _ _ => rfl)) pa_nil)) (pg_name (i := 7) sc_law_part.nd rfl (Or.inl rfl))
      (pss_one (ps_if (pt_cmpR (op_neP hr.units) (pe_dget hu (pv 2) pe_str (fun _ _ => rfl)) (pe_lst pa_nil) (nomark _))
        (pss_one (ps_expr (pe_bm PySem.F.plainAttrs_list PySem.F.slot_list_append PySem.F.type_list_append mt_append (pv 6) (pa_cons (pe_cl c_law_wish (hr.mono (by first | decide | omega)) rfl (pa_cons (pv 0) (pa_cons (pe_bm PySem.F.plainAttrs_list PySem.F.slot_list_pop PySem.F.type_list_pop mt_popAt (pe_dget hu (pv 2) pe_str (fun _ _ => rfl)) (pa_cons pe_int pa_nil)) pa_nil))) pa_nil))))
        pss_nil)))
    (pss_cons (ps_set (i := 8) sc_law_part.nd rfl (Or.inl rfl) (pe_lst pa_nil))
    (pss_cons (ps_for PassesOwn.never rfl (pi_range1 rfl T.m_range (pa_cons (pe_ifExp (pt_cmpR op_gt (pe_dget hu (pv 2) pe_str (fun _ _ => rfl)) pe_int (nomark _)) (pe_ix ix_list (pe_lst (pa_cons pe_int (pa_cons pe_int (pa_cons pe_int (pa_cons pe_int pa_nil))))) (pe_cl c_law_draw (hr.mono (by first | decide | omega)) rfl (pa_cons (pv 0) (pa_cons pe_int pa_nil))) (fun _ _ => rfl)) pe_int) pa_nil)) (pg_name (i := 7) sc_law_part.nd rfl (Or.inl rfl))
      (pss_one (ps_if (pt_cmpR op_gt (pe_dget hu (pv 2) pe_str (fun _ _ => rfl)) pe_int (nomark _))
        (pss_cons (ps_dput hu (pv 2) pe_str (pe_op op_sub (pe_dget hu (pv 2) pe_str (fun _ _ => rfl)) pe_int) rfl)
        (pss_cons (ps_dput hu (pv 2) pe_str (pe_op op_sub (pe_dget hu (pv 2) pe_str (fun _ _ => rfl)) pe_int) rfl)
        (pss_cons (ps_par (i := 9) (j := 10) rfl sc_law_part.nd rfl rfl (by decide) rfl rfl (pa_cons (pe_op op_sub (pe_cl c_law_draw (hr.mono (by first | decide | omega)) rfl (pa_cons (pv 0) (pa_cons (pe_ix ix_tup (pv 1) pe_int (fun _ _ => rfl)) pa_nil))) pe_int) (pa_cons (pe_op op_sub (pe_cl c_law_draw (hr.mono (by first | decide | omega)) rfl (pa_cons (pv 0) (pa_cons (pe_ix ix_tup (pv 1) pe_int (fun _ _ => rfl)) pa_nil))) pe_int) pa_nil)) rfl)
        (pss_cons (ps_expr (pe_bm PySem.F.plainAttrs_list PySem.F.slot_list_append PySem.F.type_list_append mt_append (pv 8) (pa_cons (pe_cl c_law_part (hr.mono (by first | decide | omega)) rfl (pa_cons (pv 0) (pa_cons (pe_tup (pa_cons (pv 9) (pa_cons (pv 10) (pa_cons (pe_op op_add pe_int (pe_cl c_law_draw (hr.mono (by first | decide | omega)) rfl (pa_cons (pv 0) (pa_cons (pe_ix ix_tup (pv 1) pe_int (fun _ _ => rfl)) pa_nil)))) (pa_cons (pe_op op_add pe_int (pe_cl c_law_draw (hr.mono (by first | decide | omega)) rfl (pa_cons (pv 0) (pa_cons (pe_ix ix_tup (pv 1) pe_int (fun _ _ => rfl)) pa_nil)))) pa_nil))))) (pa_cons (pv 2) pa_nil)))) pa_nil)))
        (pss_one (ps_dput hu (pv 2) pe_str (pe_op op_add (pe_dget hu (pv 2) pe_str (fun _ _ => rfl)) pe_int) rfl))))))
        pss_nil)))
    (pss_one (ps_ret (pe_tup (pa_cons (pv 3) (pa_cons (pv 1) (pa_cons (pv 4) (pa_cons (pe_ix ix_list (pe_lst (pa_cons pe_non (pa_cons (pv 5) pa_nil))) (pe_cl c_law_draw (hr.mono (by first | decide | omega)) rfl (pa_cons (pv 0) (pa_cons pe_int pa_nil))) (fun _ _ => rfl)) (pa_cons (pe_tupleOf rfl T.m_tuple (pv 6)) (pa_cons (pe_tupleOf rfl T.m_tuple (pv 8)) pa_nil)))))))))))))))), ?_⟩
  obtain ⟨nm, ns1, rfl⟩ : ∃ nm ns1, ns = nm :: ns1 := by
    cases ns with
    | nil => exact absurd hns (by simp)
    | cons a b => exact ⟨a, b, rfl⟩
  have hns1 : ns1.length = left := by simpa using hns
  have nlt : nl ≠ t := hT.ne_lst hR.nm
  have llt : ll ≠ t := hT.ne_lst hR.lb
  have rc : r ≠ c := hT.ne_dctc hR.ob
  refine ⟨_, rfl, r, _, rfl, hR.g_names, .inl ⟨rfl, _, SqL.of hR.nm⟩, nl, _, 0, 0, .str nm, rfl, rfl, hR.nm, by decide, by decide, seq0 (by simp), rfl, ?_⟩
  have R1 := hR.pop_names nll
  have T1 := hT.put (o := .lst (ns1.map V.str)) nlt nlc
  have f1 : Fr [t, r, nl, ll] H (upd H nl (.lst (ns1.map V.str))) := Fr.put (by simp)
  have hbx1 : (upd H nl (.lst (ns1.map V.str))) bx = _ := (Tp.put hR.nm) _ _ hbx
  change (tSeq _ _) _ _ (upd H nl (.lst (ns1.map V.str)))
  generalize upd H nl (.lst (ns1.map V.str)) = H1 at *
  refine ⟨(by show 4 ≤ sizeLine; decide), fun p hp => ⟨_, rfl, pick_draw (xs := [.non, .non, .str "hear", .str "stop"]) (i := 4) T1 (by omega) rfl ⟨by simp, by simp⟩ (fun ear H2 _ T2 f2 => ?_) p hp⟩⟩
  have R2 := R1.fr T1 rt f2
  have p2 := T1.tp f2
  refine ⟨(by show 2 ≤ sizeLine; decide), fun p hp => ⟨_, rfl, pick_draw (xs := [.str "across", .str "along"]) (i := 2) T2 (by omega) rfl ⟨by simp, by simp⟩ (fun zv H3 hzv T3 f3 => ?_) p hp⟩⟩
  obtain ⟨zs, rfl⟩ : ∃ zs : Str, zv = .str zs := by
    simp only [List.mem_cons, List.not_mem_nil, or_false] at hzv
    rcases hzv with rfl | rfl
    all_goals exact ⟨_, rfl⟩
  refine ⟨_, rfl, t, c, 90, _, rfl, T3, ⟨by decide, by decide⟩, by omega, fun r4 H4 hr4 T4 f4 => ?_⟩
  refine ⟨_, _, rfl, rfl, _, rfl, t, c, 90, _, rfl, T4, ⟨by decide, by decide⟩, by omega, fun r5 H5 hr5 T5 f5 => ?_⟩
  refine ⟨(by show 3 ≤ sizeLine; decide), ?_⟩
  (intro sh sh0; generalize hh_ : upd _ sh _ = H6; have hsh := upd_is hh_; have sm6 := same_is hh_ sh0; clear hh_)
  have g6 : Fr [t] H2 H6 := ((f3.trans f4).trans f5).trans (Fr.same sm6 _)
  have R6 := (((R2.fr T2 rt f3).fr T3 rt f4).fr T4 rt f5).same sm6
  have T6 := T5.same sm6
  have f6 : Fr [t, r, nl, ll] H H6 := (f1.trans f2.t4).trans g6.t4
  have hbx6 := (p2.trans (T2.tp g6)) _ _ hbx1
  refine ⟨(by show 0 ≤ sizeLine; decide), ?_⟩
  (intro wl wl0; generalize hh_ : upd _ wl _ = H7; have hwl := upd_is hh_; have sm7 := same_is hh_ wl0; clear hh_)
  have wlt := T6.ne_new wl0
  have wlc := T6.ne_newc wl0
  have wlr := ne_fresh R6.ob wl0
  have wln := ne_fresh R6.nm wl0
  have wll := ne_fresh R6.lb wl0
  have wl4 : wl ∉ [t, r, nl, ll] := off4 wlt wlr wln wll
  have wlH := f6.fresh wl0 wl4
  have R7 := R6.same sm7
  have T7 := T6.same sm7
  have f7 := f6.trans (Fr.same sm7 _)
  have hbx7 := sm7 _ _ hbx6
  have hsh7 := sm7 _ _ hsh
  clear R6 T6 f6 hbx6 hsh sm6 sm7 g6 R2 p2 T1 T2 T3 T4 T5 f1 f2 f3 f4 f5 R1 hbx1
  refine ⟨(by show 6 ≤ sizeLine; decide), fun p hp => ⟨_, rfl, pick_draw (xs := [.int 0, .int 1, .int 1, .int 2, .int 3, .int 6]) (i := 6) T7 (by omega) rfl ⟨by simp, by simp⟩ (fun jv H8 hjv T8 f8 => ?_) p hp⟩⟩
  obtain ⟨j, rfl, hj⟩ : ∃ j : Int, jv = .int j ∧ (0 ≤ j ∧ j ≤ 6) := by
    simp only [List.mem_cons, List.not_mem_nil, or_false] at hjv
    rcases hjv with rfl | rfl | rfl | rfl | rfl | rfl
    all_goals exact ⟨_, rfl, by decide, by decide⟩
  have R8 := R7.fr T7 rt f8
  have p8 := T7.tp f8
  have hwl8 := f8 _ _ hwl (not_in_one wlt)
  have ff8 := f7.trans (f8.t4 (r := r) (nl := nl) (ll := ll))
  have hbx8 := p8 _ _ hbx7
  have hsh8 := p8 _ _ hsh7
  clear R7 T7 f7 hbx7 hsh7 f8 p8 hwl
  refine ⟨j, rfl, by omega, by omega, for_range (n := j.toNat) (fun i σ Hx => ∃ (k7 : Option V) (wvs : List V) (ls' : List Str), σ = [some (.ref t), some (.ref bx), some (.ref r), some (.str nm), some ear, some (.ref sh), some (.ref wl), k7, none, none, none] ∧ Hx wl = some (.lst wvs) ∧ wvs.length ≤ i ∧ ImDs Hx 5 wvs ∧ RoomAt Hx r nl ll ns1 ls' (left : Int) (d : Int) ∧ TapeAt Hx t c (n + 6 + 110 * i) ∧ Fr [t, r, nl, ll] H Hx ∧ Tp H8 Hx) ?_ ?_ ?_⟩
  · exact ⟨none, [], ls, rfl, hwl8, Nat.le_refl _, .nil, R8, T8.mono (by omega), ff8, Tp.refl _⟩
  · rintro i σ Hx hi ⟨k7, wvs, ls', rfl, hw1, hw2, hw3, Rx, Tx, fx, px⟩
    clear k
    refine ⟨_, rfl, r, _, rfl, Rx.g_labels, (by show 0 ≤ sizeLine; decide), ?_⟩
    (intro em em0; generalize hh_ : upd _ em _ = H9; have hem := upd_is hh_; have sm9 := same_is hh_ em0; clear hh_)
    refine ⟨_, _, dp_strL (sm9 _ _ Rx.lb), dp_strL (ws := []) hem, plain_strs _, rfl, by show min (PyData.depthAll _ + 1) _ ≤ 64; rw [depth_strs]; omega, _, rfl, ?_⟩
    rw [eqv_nil]
    have R9 := Rx.same sm9
    have T9 := Tx.same sm9
    cases ls' with
    | nil =>
      refine iteF ?_
      exact ⟨_, wvs, [], rfl, sm9 _ _ hw1, by omega, hw3.tp (Tp.same sm9), R9, T9.mono (by omega), fx.trans (Fr.same sm9 _), px.trans (Tp.same sm9)⟩
    | cons lb ls2 =>
      refine iteT ?_
      have hw9 := sm9 _ _ hw1
      refine ⟨_, rfl, .inl ⟨rfl, _, SqL.of hw9⟩, _, rfl, _, rfl, r, _, rfl, R9.g_labels, .inl ⟨rfl, _, SqL.of R9.lb⟩, ll, _, 0, 0, .str lb, rfl, rfl, R9.lb, by decide, by decide, seq0 (by simp), rfl, ?_⟩
      have Ra := R9.pop_labels nll
      have Ta := T9.put (o := .lst (ls2.map V.str)) llt llc
      have fa : Fr [t, r, nl, ll] H9 (upd H9 ll (.lst (ls2.map V.str))) := Fr.put (by simp)
      have pa : Tp H9 (upd H9 ll (.lst (ls2.map V.str))) := Tp.put R9.lb
      have hwa : (upd H9 ll (.lst (ls2.map V.str))) wl = some (.lst wvs) := by rw [upd_ne wll]; exact hw9
      refine ⟨t, c, n + 6 + 110 * i, lb, rfl, Ta, by omega, fun v Hb iv Tb fb => ?_⟩
      have hwb := fb _ _ hwa (not_in_one wlt)
      have Rb := Ra.fr Ta rt fb
      have pb : Tp Hx Hb := ((Tp.same sm9).trans pa).trans (Ta.tp fb)
      refine ⟨wl, wvs, v, rfl, rfl, hwb, Nat.lt_of_lt_of_le (by omega : wvs.length < 1000) (sz (by decide : 1000 ≤ 100000)), ?_⟩
      refine ⟨_, wvs ++ [v], ls2, rfl, upd_same, by simp; omega, ((hw3.tp pb).snoc iv).tp (Tp.put hwb), Rb.put wlr wln wll, (Tb.put wlt wlc).mono (by omega), fx.upd_new ((Fr.same sm9 _).trans (fa.trans fb.t4)) wlH, (px.trans pb).trans (Tp.put hwb)⟩
  rintro σ H9 ⟨k7, wvs, ls1, rfl, hw1, hw2, hw3, R9, T9, f9, p9⟩
  have hw6 : wvs.length ≤ 6 := by omega
  have hbx9 := p9 _ _ hbx8
  have hsh9 := p9 _ _ hsh8
  have T9' : TapeAt H9 t c (n + 666) := T9.mono (by omega)
  clear hw2 T9 R8 T8 ff8 hbx8 hsh8 p9 hwl8
  refine ⟨(by show 0 ≤ sizeLine; decide), ?_⟩
  (intro pl pl0; generalize hh_ : upd _ pl _ = Ha; have hpl := upd_is hh_; have sma := same_is hh_ pl0; clear hh_)
  have plt := T9'.ne_new pl0
  have plc := T9'.ne_newc pl0
  have plr := ne_fresh R9.ob pl0
  have pln := ne_fresh R9.nm pl0
  have pll := ne_fresh R9.lb pl0
  have plw := ne_fresh hw1 pl0
  have pl4 : pl ∉ [t, r, nl, ll] := off4 plt plr pln pll
  have plH := f9.fresh pl0 pl4
  have Ra := R9.same sma
  have Ta := T9'.same sma
  have fa := f9.trans (Fr.same sma _)
  have hbxa := sma _ _ hbx9
  have hsha := sma _ _ hsh9
  have hwa := sma _ _ hw1
  have hw3a := hw3.tp (Tp.same sma)
  clear R9 T9' f9 hbx9 hsh9 hw1 hw3 sma
  refine ⟨_, rfl, r, _, rfl, Ra.g_deep, _, _, rfl, rfl, _, rfl, ?_⟩
  refine if_pick (K := K) (xs := [.int 0, .int 1, .int 2, .int 3]) (i := 4) Ta (by omega) rfl ⟨by simp, by simp⟩ (fun z => ⟨z.1, fun q hq => ⟨_, rfl, z.2 q hq⟩⟩) (fun z => z) (fun jv Hb hjv Tb fb => ?_)
  obtain ⟨j, rfl, hj⟩ : ∃ j : Int, jv = .int j ∧ (0 ≤ j ∧ j ≤ 3) ∧ (0 < j → 0 < (d : Int)) := by
    rcases hjv with ⟨hd, hjv⟩ | rfl
    · simp only [List.mem_cons, List.not_mem_nil, or_false] at hjv
      rcases hjv with rfl | rfl | rfl | rfl
      all_goals exact ⟨_, rfl, by decide, fun _ => hd⟩
    · exact ⟨0, rfl, by decide, fun h => absurd h (by decide)⟩
  have Rb := Ra.fr Ta rt fb
  have pb := Ta.tp fb
  have hplb := fb _ _ hpl (not_in_one plt)
  have hwb := fb _ _ hwa (not_in_one wlt)
  have ffb := fa.trans (fb.t4 (r := r) (nl := nl) (ll := ll))
  have hbxb := pb _ _ hbxa
  have hshb := pb _ _ hsha
  have hw3b := hw3a.tp pb
  clear Ra Ta fb fa hbxa hsha hw3a hwa pb hpl hjv
  refine ⟨j, rfl, by omega, by omega, for_range (n := j.toNat) (fun i σ Hx => ∃ (k7 k9 k10 : Option V) (kas : List Addr) (rs : List Rec) (ns2 ls2 : List Str) (left2 : Nat), σ = [some (.ref t), some (.ref bx), some (.ref r), some (.str nm), some ear, some (.ref sh), some (.ref wl), k7, some (.ref pl), k9, k10] ∧ Hx pl = some (.lst (kas.map V.ref)) ∧ kas.length ≤ i ∧ PartsAt (PartAt Hx d) kas rs ∧ RoomAt Hx r nl ll ns2 ls2 (left2 : Int) (d : Int) ∧ ns2.length = left2 ∧ left2 + rs.length = left ∧ TapeAt Hx t c (n + 667 + 4 * i + 1000 * rs.length) ∧ Fr [t, r, nl, ll] H Hx ∧ Tp Hb Hx ∧ Hx wl = some (.lst wvs)) ?_ ?_ ?_⟩
  · exact ⟨_, none, none, [], [], ns1, ls1, left, rfl, hplb, Nat.le_refl _, rfl, Rb, hns1, rfl, Tb, ffb, Tp.refl _, hwb⟩
  · rintro i σ Hx hi ⟨k7, k9, k10, kas, rs, ns2, ls2, left2, rfl, a1, a2, a3, Rx, a4, a5, Tx, fx, px, a6⟩
    clear k
    have hd : 0 < d := by omega
    obtain ⟨d', rfl⟩ : ∃ d', d = d' + 1 := ⟨d - 1, by omega⟩
    have esp := hsp d' rfl
    subst esp
    refine ⟨_, rfl, r, _, rfl, Rx.g_left, _, _, rfl, rfl, _, rfl, ?_⟩
    refine ite2 (fun pl2 => ?_) (fun _ => ?_)
    · have hl2 : 0 < (left2 : Int) := of_decide_eq_true pl2
      refine ⟨_, rfl, r, _, rfl, Rx.g_left, _, _, rfl, rfl, _, rfl, r, _, rfl, Rx.put_left, ?_⟩
      have Ry := Rx.to_left (v := (left2 : Int) - 1)
      have Ty := Tx.put (o := .dK (roomD nl ll ((left2 : Int) - 1) ((d' + 1 : Nat) : Int))) rt rc
      have py : Tp Hx (upd Hx r (.dK (roomD nl ll ((left2 : Int) - 1) ((d' + 1 : Nat) : Int)))) := Tp.putD Rx.ob
      have fy : Fr [t, r, nl, ll] Hx (upd Hx r (.dK (roomD nl ll ((left2 : Int) - 1) ((d' + 1 : Nat) : Int)))) := Fr.put (by simp)
      have y1 : (upd Hx r (.dK (roomD nl ll ((left2 : Int) - 1) ((d' + 1 : Nat) : Int)))) pl = some (.lst (kas.map V.ref)) := by rw [upd_ne plr]; exact a1
      have y2 : (upd Hx r (.dK (roomD nl ll ((left2 : Int) - 1) ((d' + 1 : Nat) : Int)))) wl = some (.lst wvs) := by rw [upd_ne wlr]; exact a6
      generalize (upd Hx r (.dK (roomD nl ll ((left2 : Int) - 1) ((d' + 1 : Nat) : Int)))) = Hy at *
      refine ⟨_, rfl, r, _, rfl, Ry.g_deep, _, _, rfl, rfl, _, rfl, r, _, rfl, Ry.put_deep, ?_⟩
      have Rz := Ry.to_deep (v := ((d' + 1 : Nat) : Int) - 1)
      have Tz := Ty.put (o := .dK (roomD nl ll ((left2 : Int) - 1) (((d' + 1 : Nat) : Int) - 1))) rt rc
      have pz : Tp Hy (upd Hy r (.dK (roomD nl ll ((left2 : Int) - 1) (((d' + 1 : Nat) : Int) - 1)))) := Tp.putD Ry.ob
      have fz : Fr [t, r, nl, ll] Hy (upd Hy r (.dK (roomD nl ll ((left2 : Int) - 1) (((d' + 1 : Nat) : Int) - 1)))) := Fr.put (by simp)
      have z1 : (upd Hy r (.dK (roomD nl ll ((left2 : Int) - 1) (((d' + 1 : Nat) : Int) - 1)))) pl = some (.lst (kas.map V.ref)) := by rw [upd_ne plr]; exact y1
      have z2 : (upd Hy r (.dK (roomD nl ll ((left2 : Int) - 1) (((d' + 1 : Nat) : Int) - 1)))) wl = some (.lst wvs) := by rw [upd_ne wlr]; exact y2
      generalize (upd Hy r (.dK (roomD nl ll ((left2 : Int) - 1) (((d' + 1 : Nat) : Int) - 1)))) = Hz at *
      have ez1 : (left2 : Int) - 1 = ((left2 - 1 : Nat) : Int) := by omega
      have ez2 : ((d' + 1 : Nat) : Int) - 1 = (d' : Int) := by omega
      rw [ez1, ez2] at Rz
      have pxz := (px.trans py).trans pz
      have fxz := (fx.trans fy).trans fz
      have hbxz := pxz _ _ hbxb
      have pHz : Tp Hx Hz := py.trans pz
      clear Ry Ty py fy y1 y2 fz pz
      refine ⟨_, rfl, _, rfl, bx, _, 2, .int w, rfl, rfl, SqT.of hbxz, at2, t, c, w, _, rfl, Tz, ⟨by omega, by omega⟩, by omega, fun r1 H1 hr1 T1 f1 => ?_⟩
      have q1 := Tz.tp f1
      refine ⟨_, _, rfl, rfl, _, rfl, _, rfl, bx, _, 3, .int h, rfl, rfl, SqT.of (q1 _ _ hbxz), at3, t, c, h, _, rfl, T1, ⟨by omega, by omega⟩, by omega, fun r2 H2 hr2 T2 f2 => ?_⟩
      have q2 := q1.trans (T1.tp f2)
      have z1a := f2 _ _ (f1 _ _ z1 (not_in_one plt)) (not_in_one plt)
      refine ⟨_, _, rfl, rfl, _, _, rfl, ?_⟩
      refine ⟨_, rfl, .inl ⟨rfl, _, SqL.of z1a⟩, _, rfl, _, rfl, _, rfl, _, rfl, _, rfl, bx, _, 2, .int w, rfl, rfl, SqT.of (q2 _ _ hbxz), at2, t, c, w, _, rfl, T2, ⟨by omega, by omega⟩, by omega, fun r3 H3 hr3 T3 f3 => ?_⟩
      have q3 := q2.trans (T2.tp f3)
      refine ⟨_, _, rfl, rfl, _, rfl, _, rfl, bx, _, 3, .int h, rfl, rfl, SqT.of (q3 _ _ hbxz), at3, t, c, h, _, rfl, T3, ⟨by omega, by omega⟩, by omega, fun r4 H4 hr4 T4 f4 => ?_⟩
      have q4 := q3.trans (T3.tp f4)
      refine ⟨_, _, rfl, rfl, (by show 4 ≤ sizeLine; decide), ?_⟩
      (intro kb kb0; generalize hh_ : upd _ kb _ = H5; have hkb := upd_is hh_; have sm5 := same_is hh_ kb0; clear hh_)
      have g4 : Fr [t] Hz H4 := (f1.trans f2).trans (f3.trans f4)
      have R5 := (Rz.fr Tz rt g4).same sm5
      have T5 := T4.same sm5
      have z1b := sm5 _ _ (g4 _ _ z1 (not_in_one plt))
      have z2b := sm5 _ _ (g4 _ _ z2 (not_in_one wlt))
      have q5 := q4.trans (Tp.same sm5)
      have fx5 := fxz.trans (g4.t4.trans (Fr.same sm5 _))
      clear f1 f2 f3 f4 g4 T1 T2 T3 T4 Tz Rz q1 q2 q3 q4 z1a z1 z2 fxz sm5
      refine ⟨_, rfl, t, c, kb, r, nl, ll, _, left2 - 1, ns2, ls2, _, _, 1 + r3, 1 + r4, rfl, T5, hkb, ⟨by omega, by omega, by omega, by omega⟩, R5, ⟨rt, nll, nlc, llc⟩, by omega, by omega, by omega, fun a rs' ns3 ls3 left3 H6 pa T6 R6 hn3 hl3 f6 => ?_⟩
      have z1c := f6 _ _ z1b pl4
      have z2c := f6 _ _ z2b wl4
      obtain ⟨tk, htk⟩ := T5.is
      have q6 : Tp H5 H6 := Fr4.tp f6 htk R5.ob R5.nm R5.lb
      refine ⟨pl, _, .ref a, rfl, rfl, z1c, Nat.lt_of_lt_of_le (by rw [List.length_map]; omega : (kas.map V.ref).length < 1000) (sz (by decide : 1000 ≤ 100000)), ?_⟩
      have pq : Tp Hx H6 := (pHz.trans q5).trans q6
      have R7 := R6.put (o := .lst (kas.map V.ref ++ [.ref a])) plr pln pll
      have T7 := T6.put (o := .lst (kas.map V.ref ++ [.ref a])) plt plc
      have p7 : Tp H6 (upd H6 pl (.lst (kas.map V.ref ++ [.ref a]))) := Tp.put z1c
      have f7 := fx5.upd_new (o := .lst (kas.map V.ref ++ [.ref a])) f6 plH
      have z1d : (upd H6 pl (.lst (kas.map V.ref ++ [.ref a]))) pl = some (.lst ((kas ++ [a]).map V.ref)) := by rw [upd_same, List.map_append]; rfl
      have z2d : (upd H6 pl (.lst (kas.map V.ref ++ [.ref a]))) wl = some (.lst wvs) := by rw [upd_ne plw.symm]; exact z2c
      have a3d := (PartsAt.snoc pa (a3.imp fun _ _ z => z.tp pq)).imp fun _ _ z => z.tp p7
      have p7d := (pxz.trans (q5.trans q6)).trans p7
      generalize (upd H6 pl (.lst (kas.map V.ref ++ [.ref a]))) = H7 at *
      refine ⟨_, rfl, r, _, rfl, R7.g_deep, _, _, rfl, rfl, _, rfl, r, _, rfl, R7.put_deep, ?_⟩
      have R8 := R7.to_deep (v := (d' : Int) + 1)
      have T8 := T7.put (o := .dK (roomD nl ll (left3 : Int) ((d' : Int) + 1))) rt rc
      have ez3 : (d' : Int) + 1 = ((d' + 1 : Nat) : Int) := by omega
      refine ⟨_, _, _, kas ++ [a], rs ++ rs', ns3, ls3, left3, rfl, by rw [upd_ne plr]; exact z1d, by simp; omega, a3d.imp fun _ _ z => z.tp (Tp.putD R7.ob), by rw [← ez3]; exact R8, hn3, by rw [List.length_append]; omega, T8.mono (by rw [List.length_append]; omega), f7.trans (Fr.put (by simp)), p7d.trans (Tp.putD R7.ob), by rw [upd_ne wlr]; exact z2d⟩
    · exact ⟨_, _, _, kas, rs, ns2, ls2, left2, rfl, a1, by omega, a3, Rx, a4, a5, Tx.mono (by omega), fx, px, a6⟩
  · rintro σ Hx ⟨k7, k9, k10, kas, rs, ns2, ls2, left2, rfl, a1, a2, a3, Rx, a4, a5, Tx, fx, px, a6⟩
    have a2' : kas.length ≤ 3 := by omega
    have Tx' : TapeAt Hx t c (n + 679 + 1000 * rs.length) := Tx.mono (by omega)
    have hshx := px _ _ hshb
    have hbxx := px _ _ hbxb
    have hw3x := hw3b.tp px
    refine ⟨_, rfl, _, rfl, _, rfl, _, rfl, (by show 2 ≤ sizeLine; decide), fun p hp => ⟨_, rfl, pick_draw (xs := [.non, .ref sh]) (i := 2) Tx' (by omega) rfl ⟨by simp, by simp⟩ (fun sv H1 hsv T1 f1 => ?_) p hp⟩⟩
    have R1 := Rx.fr Tx' rt f1
    have p1 := Tx'.tp f1
    have is : ShelfAt H1 sv := by
      simp only [List.mem_cons, List.not_mem_nil, or_false] at hsv
      rcases hsv with rfl | rfl
      · exact .inl rfl
      · exact .inr ⟨sh, _, _, _, rfl, p1 _ _ hshx⟩
    have w1 := f1 _ _ a6 (not_in_one wlt)
    have w2 := f1 _ _ a1 (not_in_one plt)
    refine ⟨_, rfl, .inl ⟨wl, wvs, rfl, SqL.of w1, ?_⟩⟩
    (intro tw tw0; generalize hh_ : upd _ tw _ = H2; have htw := upd_is hh_; have sm2 := same_is hh_ tw0; clear hh_)
    refine ⟨_, rfl, .inl ⟨pl, _, rfl, SqL.of (sm2 _ _ w2), ?_⟩⟩
    (intro tp tp0; generalize hh_ : upd _ tp _ = H3; have htp := upd_is hh_; have sm3 := same_is hh_ tp0; clear hh_)
    refine ⟨(by show 6 ≤ sizeLine; decide), ?_⟩
    (intro a a0; generalize hh_ : upd _ a _ = H4; have ha := upd_is hh_; have sm4 := same_is hh_ a0; clear hh_)
    have sm := (sm2.trans sm3).trans sm4
    have pp := p1.trans (Tp.same sm)
    refine k a (⟨a, nm, wvs⟩ :: rs) ns2 ls2 left2 H4 ?_ ((T1.same sm).mono (by simp; omega)) (R1.same sm) a4 (by simp; omega) (fx.trans (f1.t4.trans (Fr.same sm _)))
    exact ⟨bx, tw, tp, nm, ear, sv, x, y, w, h, wvs, kas, rs, ha, pp _ _ hbxx, is.tp (Tp.same sm), (sm3.trans sm4) _ _ htw, hw3x.tp pp, hw6, sm4 _ _ htp, a3.imp fun _ _ z => z.tp pp, rfl⟩
end
end SG
namespace SG
open PySem PySem.Spec PyProof.Rows L2
section
variable {P : Program} {w : World} {K : PySem.W.Frag} {mg : Str → Option Value} {base : Heap}
theorem all_part (D : Df K mg "_law_part" s_law_part ["_law_tape_here", "_law_box", "_law_room"]) (T : Txt K mg) (c_law_draw : Cl P w K mg base 1 "_law_draw" spDraw) (c_law_wish : Cl P w K mg base 3 "_law_wish" spWish) :
    ∀ d : Nat, Cl P w K mg base (d + 4) "_law_part" (spPart d)
  | 0 => ok_part D T c_law_draw c_law_wish ((no_part (D := D)).mono (by omega)) (fun d' e => absurd e (by omega))
  | d + 1 => ok_part D T c_law_draw c_law_wish (all_part D T c_law_draw c_law_wish d) (fun d' e => by cases e; rfl)
/-! ### pairs -/
def spPairs : Sp := fun vs H Q _ => ∃ (t c lb : Addr) (n : Nat) (ls : List V), vs = [.ref t, .ref lb] ∧ TapeAt H t c n ∧ H lb = some (.lst ls) ∧ ls.length ≤ 20 ∧ n ≤ 90000000 ∧
  ∀ (a : Addr) (x y : V) (H' : Hp), H' a = some (.tup [x, y]) → TapeAt H' t c (n + 4000) → Fr [t] H H' → Q (.ref a) H'
theorem ok_pairs (D : Df K mg "_law_pairs" s_law_pairs ["_law_tape_here", "_law_labels"]) (T : Txt K mg) (c_law_draw : Cl P w K mg base 1 "_law_draw" spDraw) : Cl P w K mg base 2 "_law_pairs" spPairs := by
  refine D.ok sc_law_pairs (fun vs H Q E h => ?_) (fun f cdv A outer s H vs Q E hr h => ?_)
  · obtain ⟨t, c, lb, n, ls, rfl, _⟩ := h
    rfl
  obtain ⟨t, c, lb, n, ls, rfl, hT, hlb, h20, hn, k⟩ := h
  have hu := hu_of hr
  refine ⟨_, -- _law_turn = _law_draw(_law_tape_here, len(_law_labels) + 1)
    (pss_cons (ps_set (i := 2) sc_law_pairs.nd rfl (Or.inl rfl) (pe_cl c_law_draw (hr.mono (by first | decide | omega)) rfl (pa_cons (pv 0) (pa_cons (pe_op op_add (pe_callB call_len_seq (by rfl) T.m_len PySem.boot_len (pa_cons (pv 1) pa_nil)) pe_int) pa_nil))))
    (pss_cons (ps_set (i := 3) sc_law_pairs.nd rfl (Or.inl rfl) (pe_op op_cat (pe_slice sl_list (pv 1) (po_some (pv 2)) po_none) (pe_slice sl_list (pv 1) po_none (po_some (pv 2)))))
    (pss_cons (ps_set (i := 4) sc_law_pairs.nd rfl (Or.inl rfl) (pe_lst pa_nil))
    (pss_cons (ps_set (i := 5) sc_law_pairs.nd rfl (Or.inl rfl) (pe_lst pa_nil))
    (pss_cons (ps_for PassesOwn.never rfl (pi_range1 rfl T.m_range (pa_cons (pe_callB call_len_seq (by rfl) T.m_len PySem.boot_len (pa_cons (pv 3) pa_nil)) pa_nil)) (pg_name (i := 6) sc_law_pairs.nd rfl (Or.inl rfl))
      (pss_one (ps_for PassesOwn.never rfl (pi_range1 rfl T.m_range (pa_cons (pv 6) pa_nil)) (pg_name (i := 7) sc_law_pairs.nd rfl (Or.inl rfl))
        (pss_cons (ps_set (i := 8) sc_law_pairs.nd rfl (Or.inl rfl) (pe_cl c_law_draw (hr.mono (by first | decide | omega)) rfl (pa_cons (pv 0) (pa_cons pe_int pa_nil))))
        (C8.pss_cut (ps_if (pt_cmpR op_eq (pv 8) pe_int (nomark _))
          (pss_one (ps_expr (pe_bm PySem.F.plainAttrs_list PySem.F.slot_list_append PySem.F.type_list_append mt_append (pv 4) (pa_cons (pe_ix ix_list (pe_lst (pa_cons (pe_tup (pa_cons (pe_ix ix_list (pv 3) (pv 6) (fun _ _ => rfl)) (pa_cons (pe_ix ix_list (pv 3) (pv 7) (fun _ _ => rfl)) pa_nil))) (pa_cons (pe_tup (pa_cons (pe_ix ix_list (pv 3) (pv 7) (fun _ _ => rfl)) (pa_cons (pe_ix ix_list (pv 3) (pv 6) (fun _ _ => rfl)) pa_nil))) pa_nil))) (pe_cl c_law_draw (hr.mono (by first | decide | omega)) rfl (pa_cons (pv 0) (pa_cons pe_int pa_nil))) (fun _ _ => rfl)) pa_nil))))
          pss_nil)
        (pss_one (ps_if (pt_cmpR op_in_seq (pv 8) (pe_tup (pa_cons pe_int (pa_cons pe_int pa_nil))) (by with_unfolding_all rfl))
          (pss_one (ps_expr (pe_bm PySem.F.plainAttrs_list PySem.F.slot_list_append PySem.F.type_list_append mt_append (pv 5) (pa_cons (pe_tup (pa_cons (pe_ix ix_list (pv 3) (pv 7) (fun _ _ => rfl)) (pa_cons (pe_ix ix_list (pv 3) (pv 6) (fun _ _ => rfl)) pa_nil))) pa_nil))))
          pss_nil)))))))
    (pss_one (ps_ret (pe_tup (pa_cons (pe_tupleOf rfl T.m_tuple (pv 4)) (pa_cons (pe_tupleOf rfl T.m_tuple (pv 5)) pa_nil)))))))))), ?_⟩
  refine ⟨_, rfl, _, rfl, lb, _, rfl, .inl (SqL.of hlb), _, _, rfl, rfl, t, c, _, _, rfl, hT, ⟨by omega, by omega⟩, by omega, fun r1 H1 hr1 T1 f1 => ?_⟩
  have hlb1 := f1 _ _ hlb (not_in_one (hT.ne_lst hlb))
  refine ⟨_, rfl, _, rfl, r1, rfl, lb, ls, rfl, SqL.of hlb1, ?_⟩
  (intro a1 a10; generalize hh_ : upd _ a1 _ = H2; have ha1 := upd_is hh_; have sm2 := same_is hh_ a10; clear hh_)
  refine ⟨_, rfl, _, rfl, r1, rfl, lb, ls, rfl, SqL.of (sm2 _ _ hlb1), ?_⟩
  (intro a2 a20; generalize hh_ : upd _ a2 _ = H3; have ha2 := upd_is hh_; have sm3 := same_is hh_ a20; clear hh_)
  have l1 := cutV_length ls (some r1) none
  have l2 := cutV_length ls none (some r1)
  refine ⟨a1, a2, _, _, rfl, rfl, sm3 _ _ ha1, ha2, sz (by omega), ?_⟩
  (intro od od0; generalize hh_ : upd _ od _ = H4; have hod := upd_is hh_; have sm4 := same_is hh_ od0; clear hh_)
  have hos : (cutV ls (some r1) none ++ cutV ls none (some r1)).length ≤ 40 := by rw [List.length_append]; omega
  generalize cutV ls (some r1) none ++ cutV ls none (some r1) = os at *
  have sma := (sm2.trans sm3).trans sm4
  have T4 := T1.same sma
  have f4 := f1.trans (Fr.same sma _)
  have odt := (T1.same (sm2.trans sm3)).ne_new od0
  clear l1 l2 ha1 ha2 sm2 sm3 sm4 sma hlb1
  refine ⟨(by show 0 ≤ sizeLine; decide), ?_⟩
  (intro bs bs0; generalize hh_ : upd _ bs _ = H5; have hbs := upd_is hh_; have sm5 := same_is hh_ bs0; clear hh_)
  refine ⟨(by show 0 ≤ sizeLine; decide), ?_⟩
  (intro hs hs0; generalize hh_ : upd _ hs _ = H6; have hhs := upd_is hh_; have sm6 := same_is hh_ hs0; clear hh_)
  have T5 := T4.same sm5
  have T6 := T5.same sm6
  have bst := T4.ne_new bs0
  have bsc := T4.ne_newc bs0
  have bso := ne_fresh hod bs0
  have hst := T5.ne_new hs0
  have hsc := T5.ne_newc hs0
  have hso := ne_fresh (sm5 _ _ hod) hs0
  have hsb := ne_fresh hbs hs0
  have f6 := (f4.trans (Fr.same sm5 _)).trans (Fr.same sm6 _)
  have bsH := f4.fresh bs0 (not_in_one bst)
  have hsH := (f4.trans (Fr.same sm5 _)).fresh hs0 (not_in_one hst)
  have hod6 := sm6 _ _ (sm5 _ _ hod)
  have hbs6 := sm6 _ _ hbs
  clear f4 T4 T5 hod hbs sm5 sm6
  refine ⟨_, rfl, od, os, rfl, .inl (SqL.of hod6), _, rfl, by omega, by omega, for_range (n := ((os.length : Nat) : Int).toNat) (fun i σ Hx => ∃ (k6 k7 k8 : Option V) (xs ys : List V), σ = [some (.ref t), some (.ref lb), some (.int r1), some (.ref od), some (.ref bs), some (.ref hs), k6, k7, k8] ∧ Hx od = some (.lst os) ∧ Hx bs = some (.lst xs) ∧ Hx hs = some (.lst ys) ∧ xs.length ≤ 40 * i ∧ ys.length ≤ 40 * i ∧ TapeAt Hx t c (n + 1 + 80 * i) ∧ Fr [t] H Hx) ?_ ?_ ?_⟩
  · exact ⟨none, none, none, [], [], rfl, hod6, hbs6, hhs, Nat.le_refl _, Nat.le_refl _, T6, f6⟩
  · rintro i σ Hx hi ⟨k6, k7, k8, xs, ys, rfl, x1, x2, x3, x4, x5, Tx, fx⟩
    have hi' : i < os.length := by omega
    obtain ⟨vk, _, ek⟩ := at_in (xs := os) (i := 0 + (i : Int)) (by omega) (by omega)
    refine ⟨_, rfl, 0 + (i : Int), rfl, by omega, by omega, for_range (n := (0 + (i : Int)).toNat) (fun j σ Hy => ∃ (k7 k8 : Option V) (xs ys : List V), σ = [some (.ref t), some (.ref lb), some (.int r1), some (.ref od), some (.ref bs), some (.ref hs), some (.int (0 + (i : Int))), k7, k8] ∧ Hy od = some (.lst os) ∧ Hy bs = some (.lst xs) ∧ Hy hs = some (.lst ys) ∧ xs.length ≤ 40 * i + j ∧ ys.length ≤ 40 * i + j ∧ TapeAt Hy t c (n + 1 + 80 * i + 2 * j) ∧ Fr [t] H Hy) ?_ ?_ ?_⟩
    · exact ⟨_, _, xs, ys, rfl, x1, x2, x3, x4, x5, Tx, fx⟩
    · rintro j σ Hy hj ⟨k7, k8, xs, ys, rfl, y1, y2, y3, y4, y5, Ty, fy⟩
      have hj' : j < os.length := by omega
      obtain ⟨vj, _, ej⟩ := at_in (xs := os) (i := 0 + (j : Int)) (by omega) (by omega)
      refine ⟨_, rfl, t, c, 7, _, rfl, Ty, ⟨by decide, by decide⟩, by omega, fun r7 H7 hr7 T7 f7 => ?_⟩
      have z1 := f7 _ _ y1 (not_in_one odt)
      have z2 := f7 _ _ y2 (not_in_one bst)
      have z3 := f7 _ _ y3 (not_in_one hst)
      have fz := fy.trans f7
      refine ⟨fun σ' H' => ∃ xs', σ' = [some (.ref t), some (.ref lb), some (.int r1), some (.ref od), some (.ref bs), some (.ref hs), some (.int (0 + (i : Int))), some (.int (0 + (j : Int))), some (.int r7)] ∧ H' od = some (.lst os) ∧ H' bs = some (.lst xs') ∧ H' hs = some (.lst ys) ∧ xs'.length ≤ 40 * i + j + 1 ∧ TapeAt H' t c (n + 1 + 80 * i + 2 * j + 2) ∧ Fr [t] H H', ?_, ?_⟩
      · refine ⟨_, rfl, rfl, _, rfl, ?_⟩
        refine ite2 (fun _ => ?_) (fun _ => ⟨xs, rfl, z1, z2, z3, by omega, T7.mono (by omega), fz⟩)
        refine ⟨_, rfl, .inl ⟨rfl, _, SqL.of z2⟩, _, rfl, _, rfl, od, _, _, _, rfl, rfl, SqL.of z1, ek, _, rfl, _, rfl, od, _, _, _, rfl, rfl, SqL.of z1, ej, (by show 2 ≤ sizeLine; decide), ?_⟩
        (intro q1 q10; generalize hh_ : upd _ q1 _ = H8; have hq1 := upd_is hh_; have sm8 := same_is hh_ q10; clear hh_)
        have w1 := sm8 _ _ z1
        refine ⟨_, rfl, _, rfl, od, _, _, _, rfl, rfl, SqL.of w1, ej, _, rfl, _, rfl, od, _, _, _, rfl, rfl, SqL.of w1, ek, (by show 2 ≤ sizeLine; decide), ?_⟩
        (intro q2 q20; generalize hh_ : upd _ q2 _ = H9; have hq2 := upd_is hh_; have sm9 := same_is hh_ q20; clear hh_)
        have sm89 := sm8.trans sm9
        have T9 := T7.same sm89
        refine ⟨(by show 2 ≤ sizeLine; decide), fun p hp => ⟨_, rfl, pick_draw (xs := [.ref q1, .ref q2]) (i := 2) T9 (by omega) rfl ⟨by simp, by simp⟩ (fun v Ha _ Ta fa => ?_) p hp⟩⟩
        have g := (fz.trans (Fr.same sm89 _)).trans fa
        have u1 := fa _ _ (sm89 _ _ z1) (not_in_one odt)
        have u2 := fa _ _ (sm89 _ _ z2) (not_in_one bst)
        have u3 := fa _ _ (sm89 _ _ z3) (not_in_one hst)
        refine ⟨bs, xs, v, rfl, rfl, u2, Nat.lt_of_lt_of_le (by omega : xs.length < 10000) (sz (by decide : 10000 ≤ 100000)), ?_⟩
        exact ⟨xs ++ [v], rfl, by rw [upd_ne bso.symm]; exact u1, upd_same, by rw [upd_ne hsb]; exact u3, by simp; omega, (Ta.put bst bsc).mono (by omega), g.upd_new (Fr.refl _ _) bsH⟩
      · rintro σ' Hz ⟨xs', rfl, z1, z2, z3, z4, Tz, fz⟩
        refine ⟨_, rfl, (by show 2 ≤ sizeLine; decide), ?_⟩
        (intro q1 q10; generalize hh_ : upd _ q1 _ = H8; have hq1 := upd_is hh_; have sm8 := same_is hh_ q10; clear hh_)
        refine ⟨q1, _, rfl, .inr (SqT.of hq1), rfl, rfl, _, rfl, ?_⟩
        have w1 := sm8 _ _ z1
        have w2 := sm8 _ _ z2
        have w3 := sm8 _ _ z3
        have T8 := Tz.same sm8
        have f8 := fz.trans (Fr.same sm8 _)
        refine ite2 (fun _ => ?_) (fun _ => ⟨_, _, xs', ys, rfl, w1, w2, w3, by omega, by omega, T8.mono (by omega), f8⟩)
        refine ⟨_, rfl, .inl ⟨rfl, _, SqL.of w3⟩, _, rfl, _, rfl, od, _, _, _, rfl, rfl, SqL.of w1, ej, _, rfl, _, rfl, od, _, _, _, rfl, rfl, SqL.of w1, ek, (by show 2 ≤ sizeLine; decide), ?_⟩
        (intro q2 q20; generalize hh_ : upd _ q2 _ = H9; have hq2 := upd_is hh_; have sm9 := same_is hh_ q20; clear hh_)
        refine ⟨hs, ys, _, rfl, rfl, sm9 _ _ w3, Nat.lt_of_lt_of_le (by omega : ys.length < 10000) (sz (by decide : 10000 ≤ 100000)), ?_⟩
        exact ⟨_, _, xs', ys ++ [.ref q2], rfl, by rw [upd_ne hso.symm]; exact sm9 _ _ w1, by rw [upd_ne hsb.symm]; exact sm9 _ _ w2, upd_same, by omega, by simp; omega, ((T8.same sm9).put hst hsc).mono (by omega), f8.upd_new (Fr.same sm9 _) hsH⟩
    · rintro σ Hy ⟨k7, k8, xs, ys, rfl, y1, y2, y3, y4, y5, Ty, fy⟩
      exact ⟨_, _, _, xs, ys, rfl, y1, y2, y3, by omega, by omega, Ty.mono (by omega), fy⟩
  · rintro σ Hx ⟨k6, k7, k8, xs, ys, rfl, x1, x2, x3, x4, x5, Tx, fx⟩
    refine ⟨_, rfl, .inl ⟨bs, xs, rfl, SqL.of x2, ?_⟩⟩
    (intro q1 q10; generalize hh_ : upd _ q1 _ = Ha; have hq1 := upd_is hh_; have sma := same_is hh_ q10; clear hh_)
    refine ⟨_, rfl, .inl ⟨hs, ys, rfl, SqL.of (sma _ _ x3), ?_⟩⟩
    (intro q2 q20; generalize hh_ : upd _ q2 _ = Hb; have hq2 := upd_is hh_; have smb := same_is hh_ q20; clear hh_)
    refine ⟨(by show 2 ≤ sizeLine; decide), ?_⟩
    (intro q3 q30; generalize hh_ : upd _ q3 _ = Hc; have hq3 := upd_is hh_; have smc := same_is hh_ q30; clear hh_)
    exact k q3 _ _ Hc hq3 ((Tx.same ((sma.trans smb).trans smc)).mono (by omega)) (fx.trans (Fr.same ((sma.trans smb).trans smc) _))
end
end SG
namespace SG
open PySem PySem.Spec PyProof.Rows L2
/-! ### scenes -/
section
variable {H H' H1 H2 : Hp} {t r nl ll : Addr}
theorem Fr.drop4 (a : Fr [t] H H1) (b : Fr [t, r, nl, ll] H1 H2) (h1 : H r = none) (h2 : H nl = none) (h3 : H ll = none) : Fr [t] H H2 := fun p o e n => by
  refine b _ _ (a _ _ e n) (off4 (by simpa using n) (ne_of_none e h1) (ne_of_none e h2) (ne_of_none e h3))
theorem room_is (nl ll : Addr) (left deep : Int) : mergeK [] [((Sum.inr ("names" : Str) : Key), V.ref nl), (Sum.inr ("labels" : Str), .ref ll), (Sum.inr ("left" : Str), .int left), (Sum.inr ("deep" : Str), .int deep)] = roomD nl ll left deep := by
  simp [mergeK, putK, roomD, m12, m13, m14, m23, m24, m34]
theorem cut_map (ws : List Str) (lo hi : Option Int) : ∃ us : List Str, cutV (ws.map V.str) lo hi = us.map V.str := by
  refine ⟨(ws.drop (HT.sIx ws.length 0 lo)).take (HT.sIx ws.length ws.length hi - HT.sIx ws.length 0 lo), ?_⟩
  unfold cutV
  rw [List.map_take, List.map_drop, List.length_map]
theorem cut_to {ws : List Str} {m : Nat} (h : m ≤ ws.length) : cutV (ws.map V.str) none (some (m : Int)) = (ws.take m).map V.str := by
  unfold cutV
  rw [HT.sIx_none, HT.sIx_nat, List.length_map, List.drop_zero, Nat.sub_zero, Nat.min_eq_left h, List.map_take]
theorem cut_from {ws : List Str} {m : Nat} (h : m ≤ ws.length) : cutV (ws.map V.str) (some (m : Int)) none = (ws.drop m).map V.str := by
  unfold cutV
  rw [HT.sIx_none, HT.sIx_nat, List.length_map, Nat.min_eq_left h, List.map_drop]
  exact List.take_of_length_le (by simp)
end
def SceneAt (H : Hp) (a : Addr) (rs : List Rec) : Prop := ∃ (p : Addr) (b hd : V), H a = some (.tup [.ref p, b, hd]) ∧ PartAt H 6 p rs ∧ rs.length ≤ 30
theorem SceneAt.tp {H H' : Hp} {a : Addr} {rs : List Rec} (h : SceneAt H a rs) (t : Tp H H') : SceneAt H' a rs := by
  obtain ⟨p, b, hd, h1, h2, h3⟩ := h
  exact ⟨p, b, hd, t _ _ h1, h2.tp t, h3⟩
def spScene : Sp := fun vs H Q _ => ∃ (t c : Addr) (n m : Nat), vs = [.ref t, .int m, .int 20] ∧ TapeAt H t c n ∧ 1 ≤ m ∧ m ≤ 30 ∧ n ≤ 10000000 ∧
  ∀ (a : Addr) (rs : List Rec) (H' : Hp), SceneAt H' a rs → TapeAt H' t c (n + 40000) → Fr [t] H H' → Q (.ref a) H'
section
variable {P : Program} {w : World} {K : PySem.W.Frag} {mg : Str → Option Value} {base : Heap}
theorem ok_scene (D : Df K mg "_law_scene" s_law_scene ["_law_tape_here", "_law_many", "_law_labels"]) (T : Txt K mg) (c_law_draw : Cl P w K mg base 1 "_law_draw" spDraw) (c_law_words : Cl P w K mg base 2 "_law_words" spWords)
    (c_law_part : Cl P w K mg base 9 "_law_part" (spPart 5)) (c_law_pairs : Cl P w K mg base 2 "_law_pairs" spPairs) : Cl P w K mg base 10 "_law_scene" spScene := by
  refine D.ok sc_law_scene (fun vs H Q E h => ?_) (fun f cdv A outer s H vs Q E hr h => ?_)
  · obtain ⟨t, c, n, m, rfl, _⟩ := h
    rfl
  obtain ⟨t, c, n, m, rfl, hT, hm1, hm30, hn, k⟩ := h
  have hu := hu_of hr
  refine ⟨_, -- _law_words_here = _law_words(_law_tape_here, _law_many + _law_labels)
    (pss_cons (ps_set (i := 3) sc_law_scene.nd rfl (Or.inl rfl) (pe_cl c_law_words (hr.mono (by first | decide | omega)) rfl (pa_cons (pv 0) (pa_cons (pe_op op_add (pv 1) (pv 2)) pa_nil))))
    (pss_cons (ps_set (i := 4) sc_law_scene.nd rfl (Or.inr rfl) (pe_disp (pps_cons pe_str (pe_slice sl_list (pv 3) po_none (po_some (pv 1))) (pps_cons pe_str (pe_slice sl_list (pv 3) (po_some (pv 1)) po_none) (pps_cons pe_str (pe_op op_sub (pv 1) pe_int) (pps_cons pe_str pe_int pps_nil)))) rfl rfl (by decide) (by decide)))
    (pss_cons (ps_set (i := 5) sc_law_scene.nd rfl (Or.inl rfl) (pe_ix ix_list (pe_lst (pa_cons pe_int (pa_cons pe_int (pa_cons pe_int pa_nil)))) (pe_cl c_law_draw (hr.mono (by first | decide | omega)) rfl (pa_cons (pv 0) (pa_cons pe_int pa_nil))) (fun _ _ => rfl)))
    (pss_cons (ps_set (i := 6) sc_law_scene.nd rfl (Or.inl rfl) (pe_cl c_law_part (hr.mono (by first | decide | omega)) rfl (pa_cons (pv 0) (pa_cons (pe_tup (pa_cons (pe_op op_sub (pe_cl c_law_draw (hr.mono (by first | decide | omega)) rfl (pa_cons (pv 0) (pa_cons pe_int pa_nil))) pe_int) (pa_cons (pe_op op_sub (pe_cl c_law_draw (hr.mono (by first | decide | omega)) rfl (pa_cons (pv 0) (pa_cons pe_int pa_nil))) pe_int) (pa_cons (pv 5) (pa_cons (pv 5) pa_nil))))) (pa_cons (pv 4) pa_nil)))))
    (pss_cons (ps_setLc (i := 7) (own := [("_law_label", 10)]) rfl sc_law_scene.nd rfl rfl (sw_true rfl rfl rfl (by decide +kernel)) (pi_list (pe_slice sl_list (pv 3) (po_some (pv 1)) po_none)) (blkOk_by (N := N_law_scene) (sc := defScope s_law_scene) (by decide +kernel)) (fun _ _ _ _ _ => (pg_name (i := 10) sc_law_scene.nd rfl (Or.inl rfl))) (fun _ _ _ _ _ => pts_one (pt_cmpR (r := rIn K true) op_notIn_seq (pv 10) (pe_dget hu (pv 4) pe_str (fun _ _ => rfl)) (by with_unfolding_all rfl))) (fun _ _ _ _ _ => (pv 10)))
    (pss_cons (ps_asg (pe_cl c_law_pairs (hr.mono (by first | decide | omega)) rfl (pa_cons (pv 0) (pa_cons (pv 7) pa_nil))) (pg_tup rfl (pgs_cons (pg_name (i := 8) sc_law_scene.nd rfl (Or.inl rfl)) (pgs_cons (pg_name (i := 9) sc_law_scene.nd rfl (Or.inl rfl)) pgs_nil))))
    (pss_one (ps_ret (pe_tup (pa_cons (pv 6) (pa_cons (pv 8) (pa_cons (pv 9) pa_nil)))))))))))), ?_⟩
  have em : (m : Int) + 20 = ((m + 20 : Nat) : Int) := by omega
  refine ⟨_, rfl, _, rfl, _, rfl, _, _, rfl, rfl, t, c, m + 20, n, by rw [← em]; rfl, hT, by omega, by omega, fun wl ws H1 wl0 hws hwlen T1 f1 => ?_⟩
  have wlt := hT.ne_new wl0
  (intro r r0; generalize hh_ : upd _ r _ = H2; have hr2 := upd_is hh_; have sm2 := same_is hh_ r0; clear hh_)
  have rt := T1.ne_new r0
  have rc := T1.ne_newc r0
  have rH := f1.fresh r0 (not_in_one rt)
  have hws2 := sm2 _ _ hws
  refine ⟨_, rfl, _, rfl, _, rfl, wl, _, rfl, SqL.of hws2, ?_⟩
  (intro nl nl0; generalize hh_ : upd _ nl _ = H3; have hnl := upd_is hh_; have sm3 := same_is hh_ nl0; clear hh_)
  have nwl := ne_fresh hws2 nl0
  have hws3 := sm3 _ _ hws2
  have T2 := T1.same sm2
  have f2 := f1.trans (Fr.same sm2 _)
  have nlc := T2.ne_newc nl0
  have nlH := f2.fresh nl0 (not_in_one (T2.ne_new nl0))
  refine ⟨_, rfl, _, rfl, _, rfl, wl, _, rfl, SqL.of hws3, ?_⟩
  (intro ll ll0; generalize hh_ : upd _ ll _ = H4; have hll := upd_is hh_; have sm4 := same_is hh_ ll0; clear hh_)
  have T3 := T2.same sm3
  have f3 := f2.trans (Fr.same sm3 _)
  have llc := T3.ne_newc ll0
  have llH := f3.fresh ll0 (not_in_one (T3.ne_new ll0))
  have lln := ne_fresh hnl ll0
  have lwl := ne_fresh hws3 ll0
  have hws4 := sm4 _ _ hws3
  have T4 := T3.same sm4
  have f4 := f3.trans (Fr.same sm4 _)
  have hnl4 := sm4 _ _ hnl
  have hr4 := sm4 _ _ (sm3 _ _ hr2)
  have r_nl : r ≠ nl := ne_of hr4 hnl4 (by intro z; cases z)
  have r_ll : r ≠ ll := ne_of hr4 hll (by intro z; cases z)
  have r_wl : r ≠ wl := ne_of hr4 hws4 (by intro z; cases z)
  rw [cut_to (by omega : m ≤ ws.length)] at hnl4
  rw [cut_from (by omega : m ≤ ws.length)] at hll
  refine ⟨_, rfl, _, _, rfl, rfl, hr4, [((Sum.inr ("names" : Str) : Key), V.ref nl), (Sum.inr ("labels" : Str), .ref ll), (Sum.inr ("left" : Str), .int ((m : Int) - 1)), (Sum.inr ("deep" : Str), .int 5)], rfl, (by show 4 ≤ 15; decide), ?_⟩
  rw [room_is]
  have R5 : RoomAt (upd H4 r (.dK (roomD nl ll ((m : Int) - 1) 5))) r nl ll (ws.take m) (ws.drop m) ((m : Int) - 1) 5 := ⟨upd_same, by rw [upd_ne r_nl.symm]; exact hnl4, by rw [upd_ne r_ll.symm]; exact hll⟩
  have T5 := T4.put (o := .dK (roomD nl ll ((m : Int) - 1) 5)) rt rc
  have f5 := f4.upd_new (o := .dK (roomD nl ll ((m : Int) - 1) 5)) (Fr.refl _ _) rH
  have hws5 : (upd H4 r (.dK (roomD nl ll ((m : Int) - 1) 5))) wl = some (.lst (ws.map V.str)) := by rw [upd_ne r_wl.symm]; exact hws4
  generalize (upd H4 r (.dK (roomD nl ll ((m : Int) - 1) 5))) = H5 at *
  clear hws2 hws3 hws4 T1 T2 T3 T4 f1 f2 f3 f4 hnl4 hr4 hll hws hnl hr2 sm2 sm3 sm4
  refine ⟨(by show 3 ≤ sizeLine; decide), fun p hp => ⟨_, rfl, pick_draw (xs := [.int 200, .int 100, .int 900]) (i := 3) T5 (by omega) rfl ⟨by simp, by simp⟩ (fun wv H6 hwv T6 f6 => ?_) p hp⟩⟩
  obtain ⟨wd, rfl, hwd⟩ : ∃ wd : Int, wv = .int wd ∧ (1 ≤ wd ∧ wd ≤ 1000) := by
    simp only [List.mem_cons, List.not_mem_nil, or_false] at hwv
    rcases hwv with rfl | rfl | rfl
    all_goals exact ⟨_, rfl, by decide, by decide⟩
  refine ⟨_, rfl, _, rfl, t, c, 40, _, rfl, T6, ⟨by decide, by decide⟩, by omega, fun r7 H7 hr7 T7 f7 => ?_⟩
  refine ⟨_, _, rfl, rfl, _, rfl, t, c, 40, _, rfl, T7, ⟨by decide, by decide⟩, by omega, fun r8 H8 hr8 T8 f8 => ?_⟩
  refine ⟨_, _, rfl, rfl, _, rfl, _, rfl, (by show 4 ≤ sizeLine; decide), ?_⟩
  (intro bx bx0; generalize hh_ : upd _ bx _ = H9; have hbx := upd_is hh_; have sm9 := same_is hh_ bx0; clear hh_)
  have g9 : Fr [t] H5 H8 := (f6.trans f7).trans f8
  have R9 := (R5.fr T5 rt g9).same sm9
  have T9 := T8.same sm9
  have hws9 := sm9 _ _ (g9 _ _ hws5 (not_in_one wlt))
  have f9 := f5.trans (g9.trans (Fr.same sm9 _))
  have ez : (m : Int) - 1 = ((m - 1 : Nat) : Int) := by omega
  rw [ez] at R9
  clear R5 T5 f5 hws5 T6 T7 T8 f6 f7 f8 g9 sm9
  refine ⟨_, rfl, t, c, bx, r, nl, ll, _, m - 1, _, _, _, _, wd, wd, rfl, T9, hbx, ⟨hwd.1, hwd.2, hwd.1, hwd.2⟩, R9, ⟨rt, lln.symm, nlc, llc⟩, by rw [List.length_take]; omega, by omega, by omega, fun a rs ns' ls' left' Ha pa Ta Ra hn' hl' fa => ?_⟩
  have hwsa := fa _ _ hws9 (off4 wlt r_wl.symm nwl.symm lwl.symm)
  have ffa := Fr.drop4 f9 fa rH nlH llH
  refine ⟨_, rfl, _, rfl, _, rfl, wl, _, rfl, SqL.of hwsa, ?_⟩
  (intro us us0; generalize hh_ : upd _ us _ = Hb; have hus := upd_is hh_; have smb := same_is hh_ us0; clear hh_)
  rw [cut_from (by omega : m ≤ ws.length)] at hus
  refine ⟨us, rfl, ⟨_, SqL.of hus⟩, ?_⟩
  intro ud ud0
  have Rb := Ra.same smb
  have Tb := Ta.same smb
  have fb := ffa.trans (Fr.same smb _)
  have pb := pa.tp (Tp.same smb)
  have hd20 : (ws.drop m).length = 20 := by rw [List.length_drop]; omega
  refine lc_list (K := K) (a := us) (xs := (ws.drop m).map V.str) (fun i Hx => ∃ zs : List V, Hx ud = some (.lst zs) ∧ zs.length ≤ i ∧ Fr [ud] (upd Hb ud (.lst [])) Hx) ⟨[], upd_same, Nat.le_refl _, Fr.refl _ _⟩ (fun i Hx _ ⟨zs, _, _, fx⟩ => SqL.of (fx _ _ (same_new ud0 _ _ hus) (not_in_one (ne_fresh hus ud0).symm))) ?_ ?_
  · rintro i x Hx hi ⟨zs, x1, x2, fx⟩
    obtain ⟨z, _, rfl⟩ : ∃ z : Str, z ∈ ws.drop m ∧ V.str z = x := by
      have := List.mem_of_getElem? hi
      exact List.mem_map.mp this
    have hi20 : i < 20 := by
      have := (List.getElem?_eq_some_iff.mp hi).1
      rw [List.length_map] at this
      omega
    have Rx := Rb.same (same_new (o := .lst []) ud0)
    have eb : Hx r = _ := fx _ _ Rx.ob (not_in_one (ne_fresh Rb.ob ud0).symm)
    have el : Hx ll = _ := fx _ _ Rx.lb (not_in_one (ne_fresh Rb.lb ud0).symm)
    refine ⟨rfl, ?_⟩
    refine ⟨_, rfl, _, rfl, r, _, rfl, dget_of (k := "labels") eb (by simp [valV, roomD, m12]), ll, _, rfl, .inl (SqL.of el), rfl, flat_strs ls', _, rfl, ?_⟩
    refine ite2 (fun _ => ?_) (fun _ => ⟨zs, x1, by omega, fx⟩)
    refine ⟨_, rfl, zs, x1, Nat.lt_of_lt_of_le (by omega : zs.length < 1000) (sz (by decide : 1000 ≤ 100000)), ?_⟩
    exact ⟨zs ++ [.str z], upd_same, by simp; omega, fx.trans (Fr.put (by simp))⟩
  rintro Hc ⟨zs, hzs, lzs, fc⟩
  have fbc : Same Hb Hc := fun p o e => fc _ _ (same_new ud0 _ _ e) (not_in_one (ne_of_none e ud0))
  have Tc := Tb.same fbc
  have fc2 := fb.trans (Fr.same fbc _)
  have pc := pb.tp (Tp.same fbc)
  refine ⟨_, rfl, _, rfl, t, c, ud, _, zs, rfl, Tc, hzs, by rw [List.length_map] at lzs; omega, by omega, fun pr px py Hd hpr Td fd => ?_⟩
  refine ⟨pr, _, rfl, SqT.of hpr, rfl, _, _, rfl, _, _, rfl, rfl, ?_⟩
  refine ⟨_, rfl, _, rfl, _, rfl, (by show 3 ≤ sizeLine; decide), ?_⟩
  (intro sc sc0; generalize hh_ : upd _ sc _ = He; have hsc := upd_is hh_; have sme := same_is hh_ sc0; clear hh_)
  have lrs : rs.length ≤ 30 := by omega
  exact k sc rs He ⟨a, _, _, hsc, (pc.tp (Tc.tp fd)).tp (Tp.same sme), lrs⟩ ((Td.same sme).mono (by omega)) ((fc2.trans fd).trans (Fr.same sme _))
end
end SG
namespace SG
open PySem PySem.Spec PyProof.Rows L2
/-! ### the program: parts, outer ones first -/
def RecAt (H : Hp) (r : Rec) : Prop := ∃ (bx ws ks : Addr) (ear sh : V) (x y w h : Int) (kas : List Addr),
  H r.at_ = some (.tup [.str r.name, .ref bx, ear, sh, .ref ws, .ref ks]) ∧ H bx = some (.tup [.int x, .int y, .int w, .int h]) ∧ ShelfAt H sh ∧ H ws = some (.tup r.ws) ∧ ImDs H 5 r.ws ∧ r.ws.length ≤ 6 ∧ H ks = some (.tup (kas.map V.ref))
theorem PartsAt.recs {H : Hp} {P : Addr → List Rec → Prop} (h : ∀ a rs, P a rs → ∀ r ∈ rs, RecAt H r) : ∀ {as : List Addr} {rs : List Rec}, PartsAt P as rs → ∀ r ∈ rs, RecAt H r
  | [], rs, e => by
    rw [show rs = [] from e]
    exact fun r hr => nomatch hr
  | a :: as, rs, e => by
    obtain ⟨r1, r2, h1, h2, rfl⟩ := e
    intro r hr
    rcases List.mem_append.mp hr with hr | hr
    · exact h _ _ h1 r hr
    · exact h2.recs h r hr
theorem PartAt.recs {H : Hp} : ∀ {d : Nat} {a : Addr} {rs : List Rec}, PartAt H d a rs → ∀ r ∈ rs, RecAt H r
  | 0, _, _, h => h.elim
  | d + 1, a, rs, h => by
    obtain ⟨bx, ws, ks, nm, ear, sh, x, y, w, h', wvs, kas, rest, h1, h2, h3, h4, h5, h6, h7, h8, rfl⟩ := h
    intro r hr
    rcases List.mem_cons.mp hr with rfl | hr
    · exact ⟨bx, ws, ks, ear, sh, x, y, w, h', kas, h1, h2, h3, h4, h5, h6, h7⟩
    · exact h8.recs (fun _ _ z => z.recs) r hr
theorem PartsAt.split {P : Addr → List Rec → Prop} : ∀ {as bs : List Addr} {rs : List Rec}, PartsAt P (as ++ bs) rs → ∃ r1 r2, PartsAt P as r1 ∧ PartsAt P bs r2 ∧ rs = r1 ++ r2
  | [], bs, rs, h => ⟨[], rs, rfl, h, rfl⟩
  | a :: as, bs, rs, h => by
    obtain ⟨r1, r2, h1, h2, rfl⟩ := h
    obtain ⟨r3, r4, h3, h4, rfl⟩ := h2.split
    exact ⟨r1 ++ r3, r4, ⟨r1, r3, h1, h3, rfl⟩, h4, by rw [List.append_assoc]⟩
abbrev refs (rs : List Rec) : List V := rs.map fun r => V.ref r.at_
def spInner (d : Nat) : Sp := fun vs H Q _ => ∃ (a : Addr) (rs : List Rec), vs = [.ref a] ∧ PartAt H d a rs ∧ rs.length ≤ 30 ∧
  ∀ (p : Addr) (H' : Hp), H p = none → Same H H' → H' p = some (.lst (refs rs)) → Q (.ref p) H'
theorem at5 {a b c d e f : V} : atI [a, b, c, d, e, f] 5 = some f := atI_nat (j := 5) rfl
theorem at0_6 {a b c d e f : V} : atI [a, b, c, d, e, f] 0 = some a := atI_nat (j := 0) rfl
section
variable {P : Program} {w : World} {K : PySem.W.Frag} {mg : Str → Option Value} {base : Heap}
theorem ok_inner (D : Df K mg "_with_inner" s_with_inner ["part"]) (T : Txt K mg) : ∀ d : Nat, Cl P w K mg base d "_with_inner" (spInner d)
  | 0 => D.none fun vs H Q E h => by
    obtain ⟨a, rs, _, h, _⟩ := h
    exact h
  | d + 1 => by
    have c_with_inner := ok_inner D T d
    refine D.ok sc_with_inner (fun vs H Q E h => ?_) (fun f cdv A outer s H vs Q E hr h => ?_)
    · obtain ⟨a, rs, rfl, _⟩ := h
      rfl
    obtain ⟨a, rs, rfl, hp, h30, k⟩ := h
    have hu := hu_of hr
    obtain ⟨_, mPARTS⟩ := T.mPARTSx
    refine ⟨_, -- found = [part]
    (pss_cons (ps_set (i := 1) sc_with_inner.nd rfl (Or.inl rfl) (pe_lst (pa_cons (pv 0) pa_nil)))
    (pss_cons (ps_for PassesOwn.never rfl (pi_tup (pe_ix ix_tup (pv 0) (pe_glob (v := .int 5) rfl mPARTS ⟨_, rfl⟩) (fun _ _ => rfl))) (pg_name (i := 2) sc_with_inner.nd rfl (Or.inl rfl))
      (pss_one (ps_expr (pe_bm PySem.F.plainAttrs_list PySem.F.slot_list_extend PySem.F.type_list_extend mt_extend (pv 1) (pa_cons (pe_cl c_with_inner (hr.mono (by first | decide | omega)) rfl (pa_cons (pv 2) pa_nil)) pa_nil)))))
    (pss_one (ps_ret (pv 1))))), ?_⟩
    obtain ⟨bx, ws, ks, nm, ear, sh, x, y, w, h', wvs, kas, rest, h1, h2, h3, h4, h5, h6, h7, h8, rfl⟩ := hp
    refine ⟨_, rfl, (by show 1 ≤ sizeLine; decide), ?_⟩
    (intro fo fo0; generalize hh_ : upd _ fo _ = H1; have hfo := upd_is hh_; have sm1 := same_is hh_ fo0; clear hh_)
    refine ⟨_, rfl, a, _, 5, .ref ks, rfl, rfl, SqT.of (sm1 _ _ h1), at5, ks, rfl, ⟨_, SqT.of (sm1 _ _ h7)⟩, for_tup (K := K) (a := ks) (xs := kas.map V.ref) (fun i σ Hx => ∃ (v : Option V) (r1 r2 : List Rec), σ = [some (.ref a), some (.ref fo), v] ∧ Hx fo = some (.lst (.ref a :: refs r1)) ∧ PartsAt (PartAt H d) (kas.drop i) r2 ∧ rest = r1 ++ r2 ∧ Same H Hx) ?_ (fun i σ Hx _ ⟨_, _, _, _, _, _, _, sx⟩ => SqT.of (sx _ _ h7)) ?_ ?_⟩
    · exact ⟨none, [], rest, rfl, hfo, h8, rfl, sm1⟩
    · rintro i v σ Hx hi ⟨v0, r1, r2, rfl, x1, x2, rfl, sx⟩
      have hil : i < kas.length := by
        have := (List.getElem?_eq_some_iff.mp hi).1
        rwa [List.length_map] at this
      rw [List.getElem?_map, List.getElem?_eq_getElem hil] at hi
      obtain rfl := Option.some.inj hi
      rw [List.drop_eq_getElem_cons hil] at x2
      obtain ⟨r3, r4, y1, y2, rfl⟩ := x2
      simp only [List.length_cons, List.length_append] at h30
      refine ⟨_, rfl, .inl ⟨rfl, _, SqL.of x1⟩, _, rfl, kas[i], r3, rfl, y1.tp (Tp.same sx), by omega, fun q H2 q0 s2 hq => ?_⟩
      refine ⟨fo, q, _, _, rfl, rfl, s2 _ _ x1, hq, sz (by simp; omega), ?_⟩
      exact ⟨_, r1 ++ r3, r4, rfl, by rw [upd_same]; simp [refs], y2, by rw [List.append_assoc], fun p o e => by
        rw [upd_ne (ne_of_none e fo0)]
        exact s2 _ _ (sx _ _ e)⟩
    · rintro σ Hx ⟨v0, r1, r2, rfl, x1, x2, rfl, sx⟩
      rw [List.drop_eq_nil_of_le (by rw [List.length_map]; exact Nat.le_refl _)] at x2
      obtain rfl : r2 = [] := x2
      refine ⟨_, rfl, ?_⟩
      refine k fo Hx fo0 sx ?_
      rw [x1]
      simp [refs]
/-! ### parts_of -/
def spPartsOf : Sp := fun vs H Q _ => ∃ (a : Addr) (rs : List Rec), vs = [.ref a] ∧ SceneAt H a rs ∧ ∀ (p : Addr) (H' : Hp), H p = none → Same H H' → H' p = some (.lst (rs.map fun r => V.str r.name)) → Q (.ref p) H'
theorem ok_parts_of (D : Df K mg "parts_of" sparts_of ["scene"]) (T : Txt K mg) (c_with_inner : Cl P w K mg base 6 "_with_inner" (spInner 6)) : Cl P w K mg base 7 "parts_of" spPartsOf := by
  refine D.ok scparts_of (fun vs H Q E h => ?_) (fun f cdv A outer s H vs Q E hr h => ?_)
  · obtain ⟨a, rs, rfl, _⟩ := h
    rfl
  obtain ⟨a, rs, rfl, ⟨p, b, hd, h1, h2, h30⟩, k⟩ := h
  have hu := hu_of hr
  obtain ⟨_, mNAME⟩ := T.mNAMEx
  refine ⟨_, -- return [part[NAME] for part in _with_inner(scene[0])]
    (pss_one (ps_ret (pe_lc (own := [("part", 1)]) rfl scparts_of.nd (pi_list (pe_cl c_with_inner (hr.mono (by first | decide | omega)) rfl (pa_cons (pe_ix ix_tup (pv 0) pe_int (fun _ _ => rfl)) pa_nil))) (blkOk_by (N := Nparts_of) (sc := defScope sparts_of) (by decide +kernel)) (fun _ _ _ _ _ => (pg_name (i := 1) scparts_of.nd rfl (Or.inl rfl))) (fun _ _ _ _ _ => pts_nil) (fun _ _ _ _ _ => (pe_ix (r := rIxT K) ix_tup (pv 1) (pe_glob (v := .int 0) rfl mNAME ⟨_, rfl⟩) (fun _ _ => rfl)))))), ?_⟩
  refine ⟨_, rfl, a, _, 0, .ref p, rfl, rfl, SqT.of h1, atI_nat (j := 0) rfl, p, rs, rfl, h2, h30, fun q H1 q0 s1 hq => ?_⟩
  refine ⟨q, rfl, ⟨_, SqL.of hq⟩, ?_⟩
  intro dd dd0
  have ddq := ne_fresh hq dd0
  refine lc_list (K := K) (a := q) (xs := refs rs) (fun i Hx => ∃ zs : List V, Hx dd = some (.lst zs) ∧ zs = (rs.take i).map (fun r => V.str r.name) ∧ Same H1 Hx) ⟨[], upd_same, rfl, same_new dd0⟩ (fun i Hx _ ⟨zs, _, _, sx⟩ => SqL.of (sx _ _ hq)) ?_ ?_
  · rintro i v Hx hi ⟨zs, x1, rfl, sx⟩
    have hil : i < rs.length := by
      have := (List.getElem?_eq_some_iff.mp hi).1
      rwa [List.length_map] at this
    rw [List.getElem?_map, List.getElem?_eq_getElem hil] at hi
    obtain rfl := Option.some.inj hi
    obtain ⟨bx, ws, ks, ear, sh, x, y, w, h, kas, g1, _⟩ := h2.recs rs[i] (List.getElem_mem hil)
    refine ⟨rfl, ?_⟩
    refine ⟨_, rfl, rs[i].at_, _, 0, _, rfl, rfl, SqT.of (sx _ _ (s1 _ _ g1)), at0_6, _, x1, Nat.lt_of_lt_of_le (by rw [List.length_map, List.length_take]; omega : _ < 1000) (sz (by decide : 1000 ≤ 100000)), ?_⟩
    refine ⟨_, upd_same, ?_, fun p o e => by rw [upd_ne (ne_of_none e dd0)]; exact sx _ _ e⟩
    rw [List.take_succ_eq_append_getElem hil, List.map_append]
    rfl
  · rintro Hx ⟨zs, x1, rfl, sx⟩
    have ddH : H dd = none := s1.free dd0
    refine k dd Hx ddH (s1.trans sx) ?_
    rw [x1]
    simp [refs, List.take_of_length_le]
end
end SG
namespace SG
open PySem PySem.Spec PyProof.Rows L2
/-! ### two lists, item by item -/
def R2L {α β : Type} (R : α → β → Prop) : List α → List β → Prop
  | [], [] => True
  | x :: xs, y :: ys => R x y ∧ R2L R xs ys
  | _, _ => False
theorem R2L.imp {α β : Type} {R S : α → β → Prop} (h : ∀ x y, R x y → S x y) : ∀ {xs : List α} {ys : List β}, R2L R xs ys → R2L S xs ys
  | [], [], _ => trivial
  | _ :: _, _ :: _, q => ⟨h _ _ q.1, q.2.imp h⟩
  | [], _ :: _, q => q.elim
  | _ :: _, [], q => q.elim
theorem R2L.append {α β : Type} {R : α → β → Prop} : ∀ {xs xs' : List α} {ys ys' : List β}, R2L R xs ys → R2L R xs' ys' → R2L R (xs ++ xs') (ys ++ ys')
  | [], _, [], _, _, q => q
  | _ :: _, _, _ :: _, _, p, q => ⟨p.1, p.2.append q⟩
  | [], _, _ :: _, _, p, _ => p.elim
  | _ :: _, _, [], _, p, _ => p.elim
theorem R2L.length {α β : Type} {R : α → β → Prop} : ∀ {xs : List α} {ys : List β}, R2L R xs ys → xs.length = ys.length
  | [], [], _ => rfl
  | _ :: _, _ :: _, q => by rw [List.length_cons, List.length_cons, q.2.length]
  | [], _ :: _, q => q.elim
  | _ :: _, [], q => q.elim
theorem R2L.get {α β : Type} {R : α → β → Prop} : ∀ {xs : List α} {ys : List β} {i : Nat} {x : α}, R2L R xs ys → xs[i]? = some x → ∃ y, ys[i]? = some y ∧ R x y
  | [], [], _, _, _, h => by simp at h
  | _ :: _, y :: _, 0, _, q, h => by
    obtain rfl := Option.some.inj h
    exact ⟨y, rfl, q.1⟩
  | _ :: _, _ :: _, i + 1, _, q, h => by
    obtain ⟨y, h1, h2⟩ := q.2.get (i := i) (by simpa using h)
    exact ⟨y, by simpa using h1, h2⟩
  | [], _ :: _, _, _, q, _ => q.elim
  | _ :: _, [], _, _, q, _ => q.elim
def PairsAt (H : Hp) (qs : List Addr) (ps : List (Str × V)) : Prop := R2L (fun q p => H q = some (.tup [.str p.1, p.2])) qs ps
theorem PairsAt.tp {H H' : Hp} {qs : List Addr} {ps : List (Str × V)} (h : PairsAt H qs ps) (t : Tp H H') : PairsAt H' qs ps := R2L.imp (fun _ _ z => t _ _ z) h
def pairs (rs : List Rec) : List (Str × V) := rs.flatMap fun r => r.ws.map fun v => (r.name, v)
theorem pairs_snoc (rs : List Rec) (r : Rec) : pairs (rs ++ [r]) = pairs rs ++ r.ws.map fun v => (r.name, v) := by
  simp [pairs]
theorem pairs_len : ∀ {rs : List Rec}, (∀ r ∈ rs, r.ws.length ≤ 6) → (pairs rs).length ≤ 6 * rs.length
  | [], _ => Nat.le_refl _
  | r :: rs, h => by
    have h1 := h r List.mem_cons_self
    have h2 := pairs_len (fun q hq => h q (List.mem_cons_of_mem _ hq))
    have e : pairs (r :: rs) = r.ws.map (fun v => (r.name, v)) ++ pairs rs := by simp [pairs]
    rw [e, List.length_append, List.length_map, List.length_cons]
    omega
theorem RecAt.tp {H H' : Hp} {r : Rec} (h : RecAt H r) (t : Tp H H') : RecAt H' r := by
  obtain ⟨bx, ws, ks, ear, sh, x, y, w, h', kas, h1, h2, h3, h4, h5, h6, h7⟩ := h
  exact ⟨bx, ws, ks, ear, sh, x, y, w, h', kas, t _ _ h1, t _ _ h2, h3.tp t, t _ _ h4, h5.tp t, h6, t _ _ h7⟩
/-! ### wishes_of -/
def spWishesOf : Sp := fun vs H Q _ => ∃ (a : Addr) (rs : List Rec), vs = [.ref a] ∧ SceneAt H a rs ∧ ∀ (p : Addr) (qs : List Addr) (H' : Hp), H p = none → Same H H' → H' p = some (.lst (qs.map V.ref)) → PairsAt H' qs (pairs rs) → Q (.ref p) H'
section
variable {P : Program} {w : World} {K : PySem.W.Frag} {mg : Str → Option Value} {base : Heap}
theorem ok_wishes_of (D : Df K mg "wishes_of" swishes_of ["scene"]) (T : Txt K mg) (c_with_inner : Cl P w K mg base 6 "_with_inner" (spInner 6)) : Cl P w K mg base 7 "wishes_of" spWishesOf := by
  refine D.ok scwishes_of (fun vs H Q E h => ?_) (fun f cdv A outer s H vs Q E hr h => ?_)
  · obtain ⟨a, rs, rfl, _⟩ := h
    rfl
  obtain ⟨a, rs, rfl, ⟨p, b, hd, h1, h2, h30⟩, k⟩ := h
  have hu := hu_of hr
  refine ⟨_, -- found = []
    (pss_cons (ps_set (i := 1) scwishes_of.nd rfl (Or.inl rfl) (pe_lst pa_nil))
    (pss_cons (ps_for PassesOwn.never rfl (pi_list (pe_cl c_with_inner (hr.mono (by first | decide | omega)) rfl (pa_cons (pe_ix ix_tup (pv 0) pe_int (fun _ _ => rfl)) pa_nil))) (pg_tup rfl (pgs_cons (pg_name (i := 2) scwishes_of.nd rfl (Or.inr rfl)) (pgs_cons (pg_name (i := 3) scwishes_of.nd rfl (Or.inl rfl)) (pgs_cons (pg_name (i := 3) scwishes_of.nd rfl (Or.inl rfl)) (pgs_cons (pg_name (i := 3) scwishes_of.nd rfl (Or.inl rfl)) (pgs_cons (pg_name (i := 4) scwishes_of.nd rfl (Or.inl rfl)) (pgs_cons (pg_name (i := 3) scwishes_of.nd rfl (Or.inl rfl)) pgs_nil)))))))
      (pss_one (ps_expr (pe_bm PySem.F.plainAttrs_list PySem.F.slot_list_extend PySem.F.type_list_extend mt_extend (pv 1) (pa_cons (pe_lc (own := [("wish", 5)]) rfl scwishes_of.nd (pi_tup (pv 4)) (blkOk_by (N := Nwishes_of) (sc := defScope swishes_of) (by decide +kernel)) (fun _ _ _ _ _ => (pg_name (i := 5) scwishes_of.nd rfl (Or.inl rfl))) (fun _ _ _ _ _ => pts_nil) (fun _ _ _ _ _ => (pe_tup (pa_cons (pv 2) (pa_cons (pv 5) pa_nil))))) pa_nil)))))
    (pss_one (ps_ret (pv 1))))), ?_⟩
  refine ⟨(by show 0 ≤ sizeLine; decide), ?_⟩
  (intro fo fo0; generalize hh_ : upd _ fo _ = H1; have hfo := upd_is hh_; have s1 := same_is hh_ fo0; clear hh_)
  refine ⟨_, rfl, a, _, 0, .ref p, rfl, rfl, SqT.of (s1 _ _ h1), atI_nat (j := 0) rfl, p, rs, rfl, h2.tp (Tp.same s1), h30, fun q H2 q0 s2 hq => ?_⟩
  have hfo2 := s2 _ _ hfo
  have s02 := s1.trans s2
  refine ⟨q, rfl, ⟨_, SqL.of hq⟩, for_list (K := K) (a := q) (xs := refs rs) (fun i σ Hx => ∃ (k2 k3 k4 : Option V) (qs : List Addr), σ = [some (.ref a), some (.ref fo), k2, k3, k4, none] ∧ Hx fo = some (.lst (qs.map V.ref)) ∧ PairsAt Hx qs (pairs (rs.take i)) ∧ Hx q = some (.lst (refs rs)) ∧ Same H Hx) ?_ (fun i σ Hx _ ⟨_, _, _, _, _, _, _, hh, _⟩ => SqL.of hh) ?_ ?_⟩
  · exact ⟨none, none, none, [], rfl, hfo2, trivial, hq, s02⟩
  · rintro i v σ Hx hi ⟨k2, k3, k4, qs, rfl, x1, x2, x3, sx⟩
    have hil : i < rs.length := by
      have := (List.getElem?_eq_some_iff.mp hi).1
      rwa [List.length_map] at this
    rw [List.getElem?_map, List.getElem?_eq_getElem hil] at hi
    obtain rfl := Option.some.inj hi
    have hrec := h2.recs rs[i] (List.getElem_mem hil)
    obtain ⟨bx, ws, ks, ear, sh, x, y, w, h, kas, g1, g2, g3, g4, g5, g6, g7⟩ := hrec.tp (Tp.same sx)
    refine ⟨rs[i].at_, _, rfl, SqT.of g1, rfl, _, _, rfl, _, _, rfl, _, _, rfl, _, _, rfl, _, _, rfl, _, _, rfl, rfl, ?_⟩
    refine ⟨_, rfl, .inl ⟨rfl, _, SqL.of x1⟩, _, rfl, ws, rfl, ⟨_, SqT.of g4⟩, ?_⟩
    intro dd dd0
    refine lc_tup (K := K) (a := ws) (xs := rs[i].ws) (fun j Hy => ∃ zs : List Addr, Hy dd = some (.lst (zs.map V.ref)) ∧ PairsAt Hy zs ((rs[i].ws.take j).map fun v => (rs[i].name, v)) ∧ Same Hx Hy) ⟨[], upd_same, trivial, same_new dd0⟩ (fun j Hy _ ⟨zs, _, _, sy⟩ => SqT.of (sy _ _ g4)) ?_ ?_
    · rintro j v Hy hj ⟨zs, y1, y2, sy⟩
      have hjl := (List.getElem?_eq_some_iff.mp hj).1
      have ej := (List.getElem?_eq_some_iff.mp hj).2
      refine ⟨rfl, ?_⟩
      refine ⟨_, rfl, _, rfl, (by show 2 ≤ sizeLine; decide), ?_⟩
      (intro t t0; generalize hh_ : upd _ t _ = Hz; have ht := upd_is hh_; have sz1 := same_is hh_ t0; clear hh_)
      have z1 := sz1 _ _ y1
      have lz : zs.length ≤ 6 := by
        have e := R2L.length y2
        rw [List.length_map, List.length_take] at e
        omega
      refine ⟨_, z1, Nat.lt_of_lt_of_le (by rw [List.length_map]; omega : (zs.map V.ref).length < 1000) (sz (by decide : 1000 ≤ 100000)), ?_⟩
      refine ⟨zs ++ [t], by rw [upd_same, List.map_append]; rfl, ?_, fun p o e => by rw [upd_ne (ne_of_none e dd0)]; exact sz1 _ _ (sy _ _ e)⟩
      rw [List.take_succ_eq_append_getElem hjl, List.map_append]
      refine R2L.append ((PairsAt.tp y2 (Tp.same sz1)).tp (Tp.put z1)) ⟨?_, trivial⟩
      show upd Hz dd _ t = some (.tup [.str rs[i].name, rs[i].ws[j]])
      rw [upd_ne (ne_of ht z1 (by intro z; cases z)), ej]
      exact ht
    · rintro Hy ⟨zs, y1, y2, sy⟩
      rw [List.take_of_length_le (Nat.le_refl _)] at y2
      have w1 := sy _ _ x1
      have b1 : (pairs (rs.take i)).length ≤ 6 * 30 := by
        refine Nat.le_trans (pairs_len fun r hr => ?_) (Nat.mul_le_mul_left 6 (by rw [List.length_take]; omega))
        obtain ⟨_, _, _, _, _, _, _, _, _, _, _, _, _, _, _, z, _⟩ := h2.recs r (List.mem_of_mem_take hr)
        exact z
      have l1 := R2L.length x2
      have l2 := R2L.length y2
      rw [List.length_map] at l2
      refine ⟨fo, dd, _, _, rfl, rfl, w1, y1, sz (by rw [List.length_map, List.length_map]; omega), ?_⟩
      have pf : Tp Hy (upd Hy fo (.lst (qs.map V.ref ++ zs.map V.ref))) := Tp.put w1
      refine ⟨_, _, _, qs ++ zs, rfl, by rw [upd_same, List.map_append], ?_, ?_, fun p o e => by rw [upd_ne (ne_of_none e fo0)]; exact sy _ _ (sx _ _ e)⟩
      · rw [List.take_succ_eq_append_getElem hil, pairs_snoc]
        exact R2L.append ((PairsAt.tp x2 (Tp.same sy)).tp pf) (y2.tp pf)
      · rw [upd_ne (ne_fresh hfo q0)]
        exact sy _ _ x3
  · rintro σ Hx ⟨k2, k3, k4, qs, rfl, x1, x2, x3, sx⟩
    rw [List.take_of_length_le (by rw [List.length_map]; exact Nat.le_refl _)] at x2
    exact ⟨_, rfl, k fo qs Hx fo0 sx x1 x2⟩
/-! ### the law's own going through -/
def FlatAt (H : Hp) (fs : List Addr) (rs : List Rec) : Prop := R2L (fun f r => ∃ x y ab : V, H f = some (.tup [.ref r.at_, x, y, ab])) fs rs
theorem FlatAt.tp {H H' : Hp} {fs : List Addr} {rs : List Rec} (h : FlatAt H fs rs) (t : Tp H H') : FlatAt H' fs rs := R2L.imp (fun _ _ ⟨x, y, ab, z⟩ => ⟨x, y, ab, t _ _ z⟩) h
/-- what is still to be gone through: a part with the places about it; its list is another one than l and fo -/
def Item (H : Hp) (l fo q : Addr) (r : List Rec) : Prop := ∃ (d : Nat) (a ab : Addr) (x y : Int) (abl : List V), H q = some (.tup [.ref a, .int x, .int y, .ref ab]) ∧ H ab = some (.lst abl) ∧ abl.length + d ≤ 6 ∧ PartAt H d a r ∧ ab ≠ l ∧ ab ≠ fo
theorem Item.put {H : Hp} {l fo q : Addr} {r : List Rec} {xs : List V} {o : HO} (h : Item H l fo q r) (e : H l = some (.lst xs)) : Item (upd H l o) l fo q r := by
  obtain ⟨d, a, ab, x, y, abl, h1, h2, h3, h4, h5, h6⟩ := h
  exact ⟨d, a, ab, x, y, abl, Tp.put e _ _ h1, by rw [upd_ne h5]; exact h2, h3, h4.tp (Tp.put e), h5, h6⟩
theorem Item.putf {H : Hp} {l fo q : Addr} {r : List Rec} {xs : List V} {o : HO} (h : Item H l fo q r) (e : H fo = some (.lst xs)) : Item (upd H fo o) l fo q r := by
  obtain ⟨d, a, ab, x, y, abl, h1, h2, h3, h4, h5, h6⟩ := h
  exact ⟨d, a, ab, x, y, abl, Tp.put e _ _ h1, by rw [upd_ne h6]; exact h2, h3, h4.tp (Tp.put e), h5, h6⟩
theorem Item.same {H H' : Hp} {l fo q : Addr} {r : List Rec} (h : Item H l fo q r) (s : Same H H') : Item H' l fo q r := by
  obtain ⟨d, a, ab, x, y, abl, h1, h2, h3, h4, h5, h6⟩ := h
  exact ⟨d, a, ab, x, y, abl, s _ _ h1, s _ _ h2, h3, h4.tp (Tp.same s), h5, h6⟩
theorem Item.to {H : Hp} {l l' fo q : Addr} {r : List Rec} (h : Item H l fo q r) (e : H l' = none) : Item H l' fo q r := by
  obtain ⟨d, a, ab, x, y, abl, h1, h2, h3, h4, h5, h6⟩ := h
  exact ⟨d, a, ab, x, y, abl, h1, h2, h3, h4, (ne_fresh h2 e).symm, h6⟩
theorem PartsAt.append {P : Addr → List Rec → Prop} : ∀ {as bs : List Addr} {r1 r2 : List Rec}, PartsAt P as r1 → PartsAt P bs r2 → PartsAt P (as ++ bs) (r1 ++ r2)
  | [], _, _, _, e, h => by rw [show _ = [] from e]; exact h
  | a :: as, bs, _, r2, ⟨r3, r4, h1, h2, e⟩, h => ⟨r3, r4 ++ r2, h1, h2.append h, by rw [e, List.append_assoc]⟩
theorem PartsAt.len {P : Addr → List Rec → Prop} (h : ∀ a r, P a r → 1 ≤ r.length) : ∀ {as : List Addr} {rs : List Rec}, PartsAt P as rs → as.length ≤ rs.length
  | [], _, _ => Nat.zero_le _
  | _ :: _, _, ⟨r1, r2, h1, h2, e⟩ => by
    have z1 := h _ _ h1
    have z2 := h2.len h
    rw [e, List.length_append, List.length_cons]
    omega
theorem PartAt.len {H : Hp} : ∀ {d : Nat} {a : Addr} {rs : List Rec}, PartAt H d a rs → 1 ≤ rs.length
  | 0, _, _, h => h.elim
  | d + 1, a, rs, ⟨_, _, _, _, _, _, _, _, _, _, _, _, _, _, _, _, _, _, _, _, _, e⟩ => by rw [e]; simp
theorem Item.len {H : Hp} {l fo q : Addr} {r : List Rec} (h : Item H l fo q r) : 1 ≤ r.length := by
  obtain ⟨d, a, ab, x, y, abl, h1, h2, h3, h4, h5, h6⟩ := h
  exact h4.len
theorem at0_4 {a b c d : V} : atI [a, b, c, d] 0 = some a := atI_nat (j := 0) rfl
theorem at1_4 {a b c d : V} : atI [a, b, c, d] 1 = some b := atI_nat (j := 1) rfl
theorem at1_6 {a b c d e f : V} : atI [a, b, c, d, e, f] 1 = some b := atI_nat (j := 1) rfl
theorem at3_6 {a b c d e f : V} : atI [a, b, c, d, e, f] 3 = some d := atI_nat (j := 3) rfl
theorem at4_6 {a b c d e f : V} : atI [a, b, c, d, e, f] 4 = some e := atI_nat (j := 4) rfl
theorem at0_3 {a b c : V} : atI [a, b, c] 0 = some a := atI_nat (j := 0) rfl
def spFlat : Sp := fun vs H Q _ => ∃ (a sp : Addr) (rs : List Rec), vs = [.ref a, .ref sp] ∧ SceneAt H a rs ∧ H sp = some (.dK []) ∧
  ∀ (p : Addr) (fs : List Addr) (H' : Hp), H p = none → Same H H' → H' p = some (.lst (fs.map V.ref)) → FlatAt H' fs rs → Q (.ref p) H'
theorem ok_flat (D : Df K mg "_law_flat" s_law_flat ["_law_scene_here", "_law_spots"]) (T : Txt K mg) : Cl P w K mg base 1 "_law_flat" spFlat := by
  refine D.ok sc_law_flat (fun vs H Q E h => ?_) (fun f cdv A outer s H vs Q E hr h => ?_)
  · obtain ⟨a, sp, rs, rfl, _⟩ := h
    rfl
  obtain ⟨a, sp, rs, rfl, ⟨p, b, hd, h1, h2, h30⟩, hsp, k⟩ := h
  have hu := hu_of hr
  refine ⟨_, -- _law_left = [(_law_scene_here[0], 0, 0, [])]
    (pss_cons (ps_set (i := 2) sc_law_flat.nd rfl (Or.inl rfl) (pe_lst (pa_cons (pe_tup (pa_cons (pe_ix ix_tup (pv 0) pe_int (fun _ _ => rfl)) (pa_cons pe_int (pa_cons pe_int (pa_cons (pe_lst pa_nil) pa_nil))))) pa_nil)))
    (pss_cons (ps_set (i := 3) sc_law_flat.nd rfl (Or.inl rfl) (pe_lst pa_nil))
    (pss_cons (ps_while PassesOwn.never (pt_cmpR (op_neNil hr.units) (pv 2) (pe_lst pa_nil) (nomark _))
      (pss_cons (ps_asg (pe_bm PySem.F.plainAttrs_list PySem.F.slot_list_pop PySem.F.type_list_pop mt_popAt (pv 2) (pa_cons pe_int pa_nil)) (pg_tup rfl (pgs_cons (pg_name (i := 4) sc_law_flat.nd rfl (Or.inr rfl)) (pgs_cons (pg_name (i := 5) sc_law_flat.nd rfl (Or.inr rfl)) (pgs_cons (pg_name (i := 6) sc_law_flat.nd rfl (Or.inr rfl)) (pgs_cons (pg_name (i := 7) sc_law_flat.nd rfl (Or.inr rfl)) pgs_nil))))))
      (pss_cons (ps_asg (pe_tup (pa_cons (pe_op op_add (pv 5) (pe_ix ix_tup (pe_ix ix_tup (pv 4) pe_int (fun _ _ => rfl)) pe_int (fun _ _ => rfl))) (pa_cons (pe_op op_add (pv 6) (pe_ix ix_tup (pe_ix ix_tup (pv 4) pe_int (fun _ _ => rfl)) pe_int (fun _ _ => rfl))) pa_nil))) (pg_tup rfl (pgs_cons (pg_name (i := 5) sc_law_flat.nd rfl (Or.inr rfl)) (pgs_cons (pg_name (i := 6) sc_law_flat.nd rfl (Or.inr rfl)) pgs_nil))))
      (pss_cons (ps_expr (pe_bm PySem.F.plainAttrs_list PySem.F.slot_list_append PySem.F.type_list_append mt_append (pv 3) (pa_cons (pe_tup (pa_cons (pv 4) (pa_cons (pv 5) (pa_cons (pv 6) (pa_cons (pv 7) pa_nil))))) pa_nil)))
      (C8.pss_cut (ps_if (PW.pt (pw_and (pt_cmp (pc_notN (pe_ix ix_tup (pv 4) pe_int (fun _ _ => rfl)))) (pw_and1 (pt_cmpR op_eq (pe_ix ix_tup (pe_ix ix_tup (pv 4) pe_int (fun _ _ => rfl)) pe_int (fun _ _ => rfl)) pe_str (nomark _)))))
        (pss_one (ps_set (i := 5) sc_law_flat.nd rfl (Or.inr rfl) (pe_op op_add (pv 5) (pe_dget2 hu (pv 1) (pe_ix ix_tup (pv 4) pe_int (fun _ _ => rfl)) pe_int ⟨by rfl, by rfl, by rfl, by rfl⟩))))
        pss_nil)
      (C8.pss_cut (ps_if (PW.pt (pw_and (pt_cmp (pc_notN (pe_ix ix_tup (pv 4) pe_int (fun _ _ => rfl)))) (pw_and1 (pt_cmpR op_eq (pe_ix ix_tup (pe_ix ix_tup (pv 4) pe_int (fun _ _ => rfl)) pe_int (fun _ _ => rfl)) pe_str (nomark _)))))
        (pss_one (ps_set (i := 6) sc_law_flat.nd rfl (Or.inr rfl) (pe_op op_add (pv 6) (pe_dget2 hu (pv 1) (pe_ix ix_tup (pv 4) pe_int (fun _ _ => rfl)) pe_int ⟨by rfl, by rfl, by rfl, by rfl⟩))))
        pss_nil)
      (pss_one (ps_set (i := 2) sc_law_flat.nd rfl (Or.inl rfl) (pe_op op_cat (pe_lc (own := [("_law_one", 8)]) rfl sc_law_flat.nd (pi_tup (pe_ix ix_tup (pv 4) pe_int (fun _ _ => rfl))) (blkOk_by (N := N_law_flat) (sc := defScope s_law_flat) (by decide +kernel)) (fun _ _ _ _ _ => (pg_name (i := 8) sc_law_flat.nd rfl (Or.inl rfl))) (fun _ _ _ _ _ => pts_nil) (fun _ _ _ _ _ => (pe_tup (pa_cons (pv 8) (pa_cons (pv 5) (pa_cons (pv 6) (pa_cons (pe_op op_cat (pe_lst (pa_cons (pe_ix (r := rIxT K) ix_tup (pv 4) pe_int (fun _ _ => rfl)) pa_nil)) (pv 7)) pa_nil))))))) (pv 2))))))))))
    (pss_one (ps_ret (pv 3)))))), ?_⟩
  refine ⟨_, rfl, a, _, 0, .ref p, rfl, rfl, SqT.of h1, at0_3, (by show 0 ≤ sizeLine; decide), ?_⟩
  (intro ab ab0; generalize hh_ : upd _ ab _ = Ha; have hab := upd_is hh_; have sa := same_is hh_ ab0; clear hh_)
  refine ⟨(by show 4 ≤ sizeLine; decide), ?_⟩
  (intro q q0; generalize hh_ : upd _ q _ = Hb; have hq := upd_is hh_; have sb := same_is hh_ q0; clear hh_)
  refine ⟨(by show 1 ≤ sizeLine; decide), ?_⟩
  (intro l l0; generalize hh_ : upd _ l _ = Hc; have hl := upd_is hh_; have sc := same_is hh_ l0; clear hh_)
  refine ⟨(by show 0 ≤ sizeLine; decide), ?_⟩
  (intro fo fo0; generalize hh_ : upd _ fo _ = Hd; have hfo := upd_is hh_; have sd := same_is hh_ fo0; clear hh_)
  have s0 := (sa.trans sb).trans (sc.trans sd)
  have lH := (sa.trans sb).free l0
  have foH := ((sa.trans sb).trans sc).free fo0
  have lfo := ne_fresh hl fo0
  have i0 : Item Hd l fo q rs := ⟨6, p, ab, 0, 0, [], (sc.trans sd) _ _ hq, (sb.trans (sc.trans sd)) _ _ hab, by decide, h2.tp (Tp.same s0), (ne_fresh (sb _ _ hab) l0).symm, (ne_fresh ((sb.trans sc) _ _ hab) fo0).symm⟩
  refine ⟨fun m σ Hx => ∃ (l : Addr) (qs fs : List Addr) (rem done : List Rec) (k4 k5 k6 k7 : Option V), σ = [some (.ref a), some (.ref sp), some (.ref l), some (.ref fo), k4, k5, k6, k7, none] ∧ Hx l = some (.lst (qs.map V.ref)) ∧ PartsAt (Item Hx l fo) qs rem ∧ Hx fo = some (.lst (fs.map V.ref)) ∧ FlatAt Hx fs done ∧ rs = done ++ rem ∧ m = rem.length ∧ Same H Hx ∧ H l = none ∧ l ≠ fo, ?_, ?_⟩
  · exact ⟨rs.length, l, [q], [], rs, [], none, none, none, none, rfl, sd _ _ hl, ⟨rs, [], i0, rfl, by simp⟩, hfo, trivial, rfl, rfl, s0, lH, lfo.symm⟩
  clear hl hfo i0 s0 lH lfo l0 fo0 sa sb sc sd hab hq ab0 q0
  rintro m σ Hx ⟨l, qs, fs, rem, done, k4, k5, k6, k7, rfl, x1, x2, x3, x4, rfl, rfl, sx, lH, lfo⟩
  refine ⟨_, rfl, (by show 0 ≤ sizeLine; decide), ?_⟩
  (intro e e0; generalize hh_ : upd _ e _ = He; have he := upd_is hh_; have se := same_is hh_ e0; clear hh_)
  have y1 := se _ _ x1
  have y3 := se _ _ x3
  have sxe := sx.trans se
  refine ⟨l, e, _, rfl, rfl, SqL.of y1, SqL.of he, _, rfl, ?_⟩
  have i2 : PartsAt (Item He l fo) qs rem := x2.imp fun _ _ z => z.same se
  have i4 := x4.tp (Tp.same se)
  clear x1 x2 x3 x4 sx se e0
  cases qs with
  | nil =>
    obtain rfl : rem = [] := i2
    refine iteF ?_
    exact ⟨_, rfl, k fo fs He foH sxe y3 (by rw [List.append_nil]; exact i4)⟩
  | cons q qs =>
    refine iteT ?_
    obtain ⟨r1, r2, ⟨d, aP, ab, x, y, abl, g1, g2, g3, g4, g5, g6⟩, j2, rfl⟩ := i2
    have lr := PartsAt.len (fun _ _ z => Item.len z) j2
    rw [List.length_append, List.length_append] at h30
    cases d with
    | zero => exact g4.elim
    | succ d =>
    obtain ⟨bx, ws, ks, nm, ear, sh, bx', by', bw, bh, wvs, kas, rest, p1, p2, p3, p4, p5, p6, p7, p8, rfl⟩ := g4
    have lk := PartsAt.len (fun _ _ z => PartAt.len z) p8
    simp only [List.length_cons] at h30
    refine ⟨fun σ' H' => ∃ m', m' < (⟨aP, nm, wvs⟩ :: rest ++ r2 : List Rec).length ∧ ∃ (l : Addr) (qs fs : List Addr) (rem done' : List Rec) (k4 k5 k6 k7 : Option V), σ' = [some (.ref a), some (.ref sp), some (.ref l), some (.ref fo), k4, k5, k6, k7, none] ∧ H' l = some (.lst (qs.map V.ref)) ∧ PartsAt (Item H' l fo) qs rem ∧ H' fo = some (.lst (fs.map V.ref)) ∧ FlatAt H' fs done' ∧ done ++ (⟨aP, nm, wvs⟩ :: rest ++ r2) = done' ++ rem ∧ m' = rem.length ∧ Same H H' ∧ H l = none ∧ l ≠ fo, fun σ' H' ⟨m', hm, z⟩ => ⟨m', hm, z⟩, ?_⟩
    refine ⟨_, rfl, .inl ⟨rfl, _, SqL.of y1⟩, l, _, 0, 0, .ref q, rfl, rfl, y1, by decide, by decide, seq0 (by simp), rfl, ?_⟩
    have pt : Tp He (upd He l (.lst (qs.map V.ref))) := Tp.put y1
    have y3' : (upd He l (.lst (qs.map V.ref))) fo = some (.lst (fs.map V.ref)) := by rw [upd_ne lfo.symm]; exact y3
    have g2' : (upd He l (.lst (qs.map V.ref))) ab = some (.lst abl) := by rw [upd_ne g5]; exact g2
    have yl : (upd He l (.lst (qs.map V.ref))) l = some (.lst (qs.map V.ref)) := upd_same
    have j2' : PartsAt (Item (upd He l (.lst (qs.map V.ref))) l fo) qs r2 := j2.imp fun _ _ z => z.put y1
    have sl : Same H (upd He l (.lst (qs.map V.ref))) := fun p o e => by rw [upd_ne (ne_of_none e lH)]; exact sxe _ _ e
    have p8' : PartsAt (PartAt (upd He l (.lst (qs.map V.ref))) d) kas rest := p8.imp fun _ _ z => z.tp pt
    have i4' := i4.tp pt
    have p3' := p3.tp pt
    have g1' := pt _ _ g1
    have p1' := pt _ _ p1
    have p2' := pt _ _ p2
    have p7' := pt _ _ p7
    refine ⟨q, _, rfl, SqT.of g1', rfl, _, _, rfl, _, _, rfl, _, _, rfl, _, _, rfl, rfl, ?_⟩
    change (tSeq _ _) _ _ (upd He l (.lst (qs.map V.ref)))
    clear pt g1 g2 p1 p2 p3 p7 p8 i4 j2 y1 y3 sxe he
    generalize (upd He l (.lst (qs.map V.ref))) = H1 at *
    refine ⟨_, rfl, _, rfl, aP, _, 1, .ref bx, rfl, rfl, SqT.of p1', at1_6, bx, _, 0, .int bx', rfl, rfl, SqT.of p2', at0_4, _, _, rfl, rfl, _, rfl, _, rfl, aP, _, 1, .ref bx, rfl, rfl, SqT.of p1', at1_6, bx, _, 1, .int by', rfl, rfl, SqT.of p2', at1_4, _, _, rfl, rfl, (by show 2 ≤ sizeLine; decide), ?_⟩
    (intro t2 t20; generalize hh_ : upd _ t2 _ = H2; have ht2 := upd_is hh_; have s2 := same_is hh_ t20; clear hh_)
    refine ⟨t2, _, rfl, SqT.of ht2, rfl, _, _, rfl, _, _, rfl, rfl, ?_⟩
    refine ⟨_, rfl, .inl ⟨rfl, _, SqL.of (s2 _ _ y3')⟩, _, rfl, _, rfl, _, rfl, _, rfl, (by show 4 ≤ sizeLine; decide), ?_⟩
    (intro t4 t40; generalize hh_ : upd _ t4 _ = H3; have ht4 := upd_is hh_; have s3 := same_is hh_ t40; clear hh_)
    have s13 := s2.trans s3
    have y3a := s13 _ _ y3'
    have lf := R2L.length i4'
    refine ⟨fo, _, _, rfl, rfl, y3a, Nat.lt_of_lt_of_le (by rw [List.length_map]; omega : (fs.map V.ref).length < 1000) (sz (by decide : 1000 ≤ 100000)), ?_⟩
    have pf : Tp H3 (upd H3 fo (.lst (fs.map V.ref ++ [.ref t4]))) := Tp.put y3a
    have pa : Tp H1 (upd H3 fo (.lst (fs.map V.ref ++ [.ref t4]))) := (Tp.same s13).trans pf
    have z3 : (upd H3 fo (.lst (fs.map V.ref ++ [.ref t4]))) fo = some (.lst ((fs ++ [t4]).map V.ref)) := by rw [upd_same, List.map_append]; rfl
    have zab : (upd H3 fo (.lst (fs.map V.ref ++ [.ref t4]))) ab = some (.lst abl) := by rw [upd_ne g6]; exact s13 _ _ g2'
    have zl : (upd H3 fo (.lst (fs.map V.ref ++ [.ref t4]))) l = some (.lst (qs.map V.ref)) := by rw [upd_ne lfo]; exact s13 _ _ yl
    have jz : PartsAt (Item (upd H3 fo (.lst (fs.map V.ref ++ [.ref t4]))) l fo) qs r2 := j2'.imp fun _ _ z => (z.same s13).putf y3a
    have iz : FlatAt (upd H3 fo (.lst (fs.map V.ref ++ [.ref t4]))) (fs ++ [t4]) (done ++ [⟨aP, nm, wvs⟩]) := R2L.append (i4'.tp pa) ⟨⟨_, _, _, pf _ _ ht4⟩, trivial⟩
    have sz' : Same H (upd H3 fo (.lst (fs.map V.ref ++ [.ref t4]))) := fun p o e => by rw [upd_ne (ne_of_none e foH)]; exact s13 _ _ (sl _ _ e)
    have pz8 : PartsAt (PartAt (upd H3 fo (.lst (fs.map V.ref ++ [.ref t4]))) d) kas rest := p8'.imp fun _ _ z => z.tp pa
    have pz1 := pa _ _ p1'
    have pz7 := pa _ _ p7'
    have pz3 := p3'.tp pa
    have zsp := sz' _ _ hsp
    clear s2 s3 s13 y3a pf pa y3' g2' yl j2' sl p8' i4' p3' g1' p1' p2' p7' ht2 ht4 t20 t40
    generalize (upd H3 fo (.lst (fs.map V.ref ++ [.ref t4]))) = H4 at *
    have ss : sh = .non ∨ ∃ (q : Addr) (z : Str) (i j : Int), sh = .ref q ∧ H4 q = some (.tup [.str z, .int i, .int j]) := pz3
    refine ⟨fun σ' H' => ∃ x' : Int, σ' = [some (.ref a), some (.ref sp), some (.ref l), some (.ref fo), some (.ref aP), some (.int x'), some (.int (y + by')), some (.ref ab), none] ∧ H' = H4, ?_, ?_⟩
    · refine ⟨_, rfl, aP, _, 3, sh, rfl, rfl, SqT.of pz1, at3_6, _, rfl, ?_⟩
      rcases ss with rfl | ⟨sq, z, i, j, rfl, hs⟩
      · refine iteF ?_
        exact ⟨_, rfl, rfl⟩
      · refine iteT ?_
        refine ⟨_, rfl, aP, _, 3, .ref sq, rfl, rfl, SqT.of pz1, at3_6, sq, _, 0, .str z, rfl, rfl, SqT.of hs, at0_3, rfl, _, rfl, ?_⟩
        refine ite2 (fun _ => ?_) (fun _ => ⟨_, rfl, rfl⟩)
        refine ⟨_, rfl, _, rfl, sp, rfl, .inl ⟨_, .inl zsp⟩, _, rfl, aP, _, 0, .str nm, rfl, rfl, SqT.of pz1, at0_6, none, DGet.k (k := Sum.inr nm) zsp, _, _, rfl, rfl, ?_⟩
        exact ⟨_, rfl, rfl⟩
    rintro σ' H' ⟨x', rfl, rfl⟩
    refine ⟨fun σ' Hq => ∃ y' : Int, σ' = [some (.ref a), some (.ref sp), some (.ref l), some (.ref fo), some (.ref aP), some (.int x'), some (.int y'), some (.ref ab), none] ∧ Hq = H', ?_, ?_⟩
    · refine ⟨_, rfl, aP, _, 3, sh, rfl, rfl, SqT.of pz1, at3_6, _, rfl, ?_⟩
      rcases ss with rfl | ⟨sq, z, i, j, rfl, hs⟩
      · refine iteF ?_
        exact ⟨_, rfl, rfl⟩
      · refine iteT ?_
        refine ⟨_, rfl, aP, _, 3, .ref sq, rfl, rfl, SqT.of pz1, at3_6, sq, _, 0, .str z, rfl, rfl, SqT.of hs, at0_3, rfl, _, rfl, ?_⟩
        refine ite2 (fun _ => ?_) (fun _ => ⟨_, rfl, rfl⟩)
        refine ⟨_, rfl, _, rfl, sp, rfl, .inl ⟨_, .inl zsp⟩, _, rfl, aP, _, 0, .str nm, rfl, rfl, SqT.of pz1, at0_6, none, DGet.k (k := Sum.inr nm) zsp, _, _, rfl, rfl, ?_⟩
        exact ⟨_, rfl, rfl⟩
    rintro σ' Hq ⟨y', rfl, rfl⟩
    clear ss pz3 zsp
    refine ⟨_, rfl, aP, _, 5, .ref ks, rfl, rfl, SqT.of pz1, at5, ks, rfl, ⟨_, SqT.of pz7⟩, ?_⟩
    intro dd dd0
    have ddf := ne_fresh z3 dd0
    refine lc_tup (K := K) (a := ks) (xs := kas.map V.ref) (fun i Hy => ∃ (qn : List Addr) (ra rb : List Rec), Hy dd = some (.lst (qn.map V.ref)) ∧ PartsAt (Item Hy dd fo) qn ra ∧ PartsAt (PartAt Hq d) (kas.drop i) rb ∧ rest = ra ++ rb ∧ qn.length = i ∧ Same Hq Hy) ⟨[], [], rest, upd_same, rfl, pz8, rfl, rfl, same_new dd0⟩ (fun i Hy _ ⟨_, _, _, _, _, _, _, _, sy⟩ => SqT.of (sy _ _ pz7)) ?_ ?_
    · rintro i v Hy hi ⟨qn, ra, rb, u1, u2, u3, rfl, u4, sy⟩
      have hil : i < kas.length := by
        have := (List.getElem?_eq_some_iff.mp hi).1
        rwa [List.length_map] at this
      rw [List.getElem?_map, List.getElem?_eq_getElem hil] at hi
      obtain rfl := Option.some.inj hi
      rw [List.drop_eq_getElem_cons hil] at u3
      obtain ⟨rc, rd, v1, v2, rfl⟩ := u3
      refine ⟨rfl, ?_⟩
      refine ⟨_, rfl, _, rfl, _, rfl, _, rfl, aP, _, 0, .str nm, rfl, rfl, SqT.of (sy _ _ pz1), at0_6, (by show 1 ≤ sizeLine; decide), ?_⟩
      (intro a1 a10; generalize hh_ : upd _ a1 _ = Hz; have ha1 := upd_is hh_; have sz1 := same_is hh_ a10; clear hh_)
      refine ⟨_, rfl, a1, ab, _, _, rfl, rfl, ha1, sz1 _ _ (sy _ _ zab), sz (by simp; omega), ?_⟩
      (intro a2 a20; generalize hh_ : upd _ a2 _ = Hw; have ha2 := upd_is hh_; have sz2 := same_is hh_ a20; clear hh_)
      refine ⟨(by show 4 ≤ sizeLine; decide), ?_⟩
      (intro qx qx0; generalize hh_ : upd _ qx _ = Hv; have hqx := upd_is hh_; have sz3 := same_is hh_ qx0; clear hh_)
      have szz := (sz1.trans sz2).trans sz3
      have u1' := szz _ _ u1
      refine ⟨_, u1', Nat.lt_of_lt_of_le (by rw [List.length_map]; omega : (qn.map V.ref).length < 1000) (sz (by decide : 1000 ≤ 100000)), ?_⟩
      have a2dd : a2 ≠ dd := ne_fresh (sz1 _ _ u1) a20
      have a2fo : a2 ≠ fo := ne_fresh (sz1 _ _ (sy _ _ z3)) a20
      have pp : Tp Hq Hv := Tp.same (sy.trans szz)
      have inew : Item Hv dd fo qx rc := ⟨d, kas[i], a2, x', y', _, hqx, sz3 _ _ ha2, by simp; omega, v1.tp pp, a2dd, a2fo⟩
      refine ⟨qn ++ [qx], ra ++ rc, rd, by rw [upd_same, List.map_append]; rfl, PartsAt.snoc (inew.put u1') ((u2.imp fun _ _ z => (z.same szz).put u1')), v2, by rw [List.append_assoc], by simp [u4], fun p o e => by rw [upd_ne (ne_of_none e dd0)]; exact szz _ _ (sy _ _ e)⟩
    rintro Hy ⟨qn, ra, rb, u1, u2, u3, rfl, u4, sy⟩
    rw [List.drop_eq_nil_of_le (by rw [List.length_map]; exact Nat.le_refl _)] at u3
    obtain rfl : rb = [] := u3
    rw [List.length_map] at u4
    rw [List.append_nil] at *
    refine ⟨_, rfl, dd, l, _, _, rfl, rfl, u1, sy _ _ zl, sz (by rw [List.length_map, List.length_map]; omega), ?_⟩
    (intro ln ln0; generalize hh_ : upd _ ln _ = Hz; have hln := upd_is hh_; have szn := same_is hh_ ln0; clear hh_)
    have syz := sy.trans szn
    refine ⟨(ra ++ r2).length, by simp, ln, qn ++ qs, fs ++ [t4], ra ++ r2, done ++ [⟨aP, nm, wvs⟩], _, _, _, _, rfl, by rw [hln, List.map_append], ?_, syz _ _ z3, iz.tp (Tp.same syz), by simp, rfl, sz'.trans syz, sz'.free (sy.free ln0), ne_fresh (sy _ _ z3) ln0⟩
    exact PartsAt.append (u2.imp fun _ _ z => (z.to ln0).same szn) (jz.imp fun _ _ z => ((z.same sy).to ln0).same szn)
end
end SG
namespace SG
open PySem PySem.Spec PyProof.Rows L2
theorem tape_is (c : Addr) (s l : Int) : mergeK [] [((Sum.inr ("cells" : Str) : Key), V.ref c), (Sum.inr ("spot" : Str), .int s), (Sum.inr ("left" : Str), .int l)] = tapeD c s l := by
  simp [mergeK, putK, tapeD, n12, n13, n23]
def spTape (K : PySem.W.Frag) : Sp := fun vs H Q _ => ∃ (a : Addr) (ns : List Int), vs = [.ref a] ∧ SqL K H a (ns.map V.int) ∧ ns.length ≤ 63 ∧ ∀ (t c : Addr) (H' : Hp), TapeAt H' t c 0 → Same H H' → Q (.ref t) H'
/-- pairs of names and wishes as data, the same wherever they stand -/
theorem pairs_data {K : PySem.W.Frag} {H : Hp} : ∀ {ps : List (Str × V)}, (∀ p ∈ ps, ImD H 5 p.2) → ∃ ds : List PyData, PyData.plainAll ds = true ∧ PyData.depthAll ds ≤ 6 ∧ ∀ (H' : Hp) (qs : List Addr), Tp H H' → PairsAt H' qs ps → DpAll K H' (qs.map V.ref) ds
  | [], _ => ⟨[], rfl, Nat.zero_le _, fun H' qs t h => by
    cases qs with
    | nil => exact .nil
    | cons q qs => exact h.elim⟩
  | (nm, v) :: ps, h => by
    obtain ⟨d, h1, h2⟩ := h _ List.mem_cons_self
    obtain ⟨ds, h3, h4, h5⟩ := pairs_data (K := K) fun p hp => h p (List.mem_cons_of_mem _ hp)
    have pl : PyData.plain (.tuple [.str nm, d]) = true := by
      show (true && (PyData.plain d && true)) = true
      rw [h1.plain]; rfl
    refine ⟨.tuple [.str nm, d] :: ds, ?_, ?_, fun H' qs t h' => ?_⟩
    · show (PyData.plain _ && PyData.plainAll ds) = true
      rw [pl, h3]; rfl
    · show max (PyData.depthAll [.str nm, d] + 1) (PyData.depthAll ds) ≤ 6
      have e : PyData.depthAll [.str nm, d] = max 0 (max d.depth 0) := rfl
      rw [e]
      omega
    · cases qs with
      | nil => exact h'.elim
      | cons q qs => exact .cons (.tup (SqT.of h'.1) (.cons (.str nm) (.cons (h1.tp t).dp .nil))) (h5 H' qs t h'.2)
theorem pairs_im {H : Hp} {rs : List Rec} (h : ∀ r ∈ rs, RecAt H r) : ∀ p ∈ pairs rs, ImD H 5 p.2 := by
  intro p hp
  obtain ⟨r, hr, hp⟩ := List.mem_flatMap.mp hp
  obtain ⟨v, hv, rfl⟩ := List.mem_map.mp hp
  obtain ⟨_, _, _, _, _, _, _, _, _, _, _, _, _, _, z, _⟩ := h r hr
  exact z v hv
theorem at0_2 {a b : V} : atI [a, b] 0 = some a := atI_nat (j := 0) rfl
theorem at1_2 {a b : V} : atI [a, b] 1 = some b := atI_nat (j := 1) rfl
def spLaw (K : PySem.W.Frag) : Sp := fun vs H Q _ => ∃ (a : Addr) (ns : List Int), vs = [.ref a] ∧ SqL K H a (ns.map V.int) ∧ ns.length ≤ 63 ∧ ∀ H', Q (.bl true) H'
section
variable {P : Program} {w : World} {K : PySem.W.Frag} {mg : Str → Option Value} {base : Heap}
theorem ok_tape (D : Df K mg "_law_tape" s_law_tape ["_law_script"]) (T : Txt K mg) : Cl P w K mg base 1 "_law_tape" (spTape K) := by
  refine D.ok sc_law_tape (fun vs H Q E h => ?_) (fun f cdv A outer s H vs Q E hr h => ?_)
  · obtain ⟨a, ns, rfl, _⟩ := h
    rfl
  obtain ⟨a, ns, rfl, hS, h63, k⟩ := h
  refine ⟨_, -- return {'cells': _law_script[:63], 'spot': 0, 'left': 0}
    (pss_one (ps_ret (pe_disp (pps_cons pe_str (pe_slice sl_list (pv 0) po_none (po_some pe_int)) (pps_cons pe_str pe_int (pps_cons pe_str pe_int pps_nil))) rfl rfl (by decide) (by decide)))), ?_⟩
  (intro t t0; generalize hh_ : upd _ t _ = H1; have ht := upd_is hh_; have s1 := same_is hh_ t0; clear hh_)
  refine ⟨_, rfl, _, rfl, a, _, rfl, s1.seq hS, ?_⟩
  (intro c c0; generalize hh_ : upd _ c _ = H2; have hc := upd_is hh_; have s2 := same_is hh_ c0; clear hh_)
  have ec : ∃ cs : List Int, cutV (ns.map V.int) none (some 63) = cs.map V.int ∧ cs.length ≤ 63 := by
    refine ⟨(ns.drop (HT.sIx ns.length 0 none)).take (HT.sIx ns.length ns.length (some 63) - HT.sIx ns.length 0 none), ?_, ?_⟩
    · unfold cutV
      rw [List.map_take, List.map_drop, List.length_map]
    · rw [List.length_take, List.length_drop]
      omega
  obtain ⟨cs, ec, lc⟩ := ec
  rw [ec] at hc
  refine ⟨s2 _ _ ht, [((Sum.inr ("cells" : Str) : Key), V.ref c), (Sum.inr ("spot" : Str), .int 0), (Sum.inr ("left" : Str), .int 0)], rfl, (by show 3 ≤ 15; decide), ?_⟩
  rw [tape_is]
  have tc : t ≠ c := ne_of (s2 _ _ ht) hc (by intro z; cases z)
  have tH := t0
  exact k t c _ ⟨cs, 0, 0, upd_same, by rw [upd_ne tc.symm]; exact hc, by decide, by decide, by decide, lc⟩ fun p o e => by
    rw [upd_ne (ne_of_none e tH)]
    exact s2 _ _ (s1 _ _ e)
theorem ok_law {f : Addr} {fd : FuncData} (F : Fun K "law" "law" slaw f fd) (T : Txt K mg) (c_law_tape : Cl P w K mg base 1 "_law_tape" (spTape K)) (c_law_scene : Cl P w K mg base 10 "_law_scene" spScene) (c_law_flat : Cl P w K mg base 1 "_law_flat" spFlat)
    (cparts_of : Cl P w K mg base 7 "parts_of" spPartsOf) (cwishes_of : Cl P w K mg base 7 "wishes_of" spWishesOf) : FnOk P w K mg base CX0 11 f fd ["_law_script"] (spLaw K) := by
  refine F.ok sclaw (fun vs H Q E h => ?_) (fun cdv A outer s H vs Q E hr h => ?_)
  · obtain ⟨a, ns, rfl, _⟩ := h
    rfl
  obtain ⟨a, ns, rfl, hS, h63, k⟩ := h
  have hu := hu_of hr
  refine ⟨_, -- _law_tape_here = _law_tape(_law_script)
    (pss_cons (ps_set (i := 1) sclaw.nd rfl (Or.inl rfl) (pe_cl c_law_tape (hr.mono (by first | decide | omega)) rfl (pa_cons (pv 0) pa_nil)))
    (pss_cons (ps_for PassesOwn.never rfl (pi_range1 rfl T.m_range (pa_cons pe_int pa_nil)) (pg_name (i := 2) sclaw.nd rfl (Or.inl rfl))
      (pss_cons (ps_set (i := 3) sclaw.nd rfl (Or.inl rfl) (pe_cl c_law_scene (hr.mono (by first | decide | omega)) rfl (pa_cons (pv 1) (pa_cons (pe_ix ix_list (pe_lst (pa_cons pe_int (pa_cons pe_int (pa_cons pe_int (pa_cons pe_int pa_nil))))) (pv 2) (fun _ _ => rfl)) (pa_cons pe_int pa_nil)))))
      (pss_cons (ps_set (i := 4) sclaw.nd rfl (Or.inl rfl) (pe_cl c_law_flat (hr.mono (by first | decide | omega)) rfl (pa_cons (pv 3) (pa_cons pe_dnewK pa_nil))))
      (pss_cons (ps_setLc (i := 5) (own := [("_law_one", 13)]) rfl sclaw.nd rfl rfl (sw_true rfl rfl rfl (by decide +kernel)) (pi_list (pv 4)) (blkOk_by (N := Nlaw) (sc := defScope slaw) (by decide +kernel)) (fun _ _ _ _ _ => (pg_name (i := 13) sclaw.nd rfl (Or.inl rfl))) (fun _ _ _ _ _ => pts_nil) (fun _ _ _ _ _ => (pe_ix (r := rIxT K) ix_tup (pe_ix (r := rIxT K) ix_tup (pv 13) pe_int (fun _ _ => rfl)) pe_int (fun _ _ => rfl))))
      (pss_cons (ps_set (i := 6) sclaw.nd rfl (Or.inl rfl) (pe_lst pa_nil))
      (pss_cons (ps_for PassesOwn.never rfl (pi_list (pv 4)) (pg_tup rfl (pgs_cons (pg_name (i := 7) sclaw.nd rfl (Or.inr rfl)) (pgs_cons (pg_name (i := 8) sclaw.nd rfl (Or.inl rfl)) (pgs_cons (pg_name (i := 9) sclaw.nd rfl (Or.inl rfl)) (pgs_cons (pg_name (i := 10) sclaw.nd rfl (Or.inl rfl)) pgs_nil)))))
        (pss_one (ps_set (i := 6) sclaw.nd rfl (Or.inl rfl) (pe_op op_cat (pv 6) (pe_lc (own := [("_law_wish_here", 14)]) rfl sclaw.nd (pi_tup (pe_ix ix_tup (pv 7) pe_int (fun _ _ => rfl))) (blkOk_by (N := Nlaw) (sc := defScope slaw) (by decide +kernel)) (fun _ _ _ _ _ => (pg_name (i := 14) sclaw.nd rfl (Or.inl rfl))) (fun _ _ _ _ _ => pts_nil) (fun _ _ _ _ _ => (pe_tup (pa_cons (pe_ix (r := rIxT K) ix_tup (pv 7) pe_int (fun _ _ => rfl)) (pa_cons (pv 14) pa_nil)))))))))
      (pss_one (ps_for PassesOwn.never rfl (pi_range1 rfl T.m_range (pa_cons pe_int pa_nil)) (pg_name (i := 11) sclaw.nd rfl (Or.inl rfl))
        (pss_cons (ps_set (i := 12) sclaw.nd rfl (Or.inl rfl) (pe_lst (pa_cons (pe_cl cparts_of (hr.mono (by first | decide | omega)) rfl (pa_cons (pv 3) pa_nil)) (pa_cons (pe_cl cwishes_of (hr.mono (by first | decide | omega)) rfl (pa_cons (pv 3) pa_nil)) pa_nil))))
        (pss_cons (ps_if (pt_cmpR (op_neP hr.units) (pv 12) (pe_lst (pa_cons (pv 5) (pa_cons (pv 6) pa_nil))) (nomark _))
          (pss_one (ps_ret pe_bl))
          pss_nil)
        (pss_cons (ps_expr (pe_bm0 PySem.F.plainAttrs_list PySem.F.slot_list_reverse PySem.F.type_list_reverse mt_reverse (pe_ix ix_list (pv 12) pe_int (fun _ _ => rfl))))
        (pss_one (ps_expr (pe_bm PySem.F.plainAttrs_list PySem.F.slot_list_append PySem.F.type_list_append mt_append (pe_ix ix_list (pv 12) pe_int (fun _ _ => rfl)) (pa_cons pe_int pa_nil)))))))))))))))
    (pss_one (ps_ret pe_bl)))), ?_⟩
  refine ⟨_, rfl, a, ns, rfl, hS, h63, fun t c H1 T1 s1 => ?_⟩
  refine ⟨4, rfl, by decide, by decide, for_range (n := 4) (fun i σ Hx => ∃ (ks : List (Option V)), σ = some (.ref a) :: some (.ref t) :: ks ∧ ks.length = 13 ∧ TapeAt Hx t c (40000 * i)) ⟨_, rfl, rfl, T1⟩ ?_ ?_⟩
  · rintro i σ Hx hi ⟨ks, rfl, lks, Tx⟩
    match ks, lks with
    | [k2, k3, k4, k5, k6, k7, k8, k9, k10, k11, k12, k13, k14], _ =>
    clear hS s1 T1
    refine ⟨_, rfl, (by show 4 ≤ sizeLine; decide), ?_⟩
    (intro l4 l40; generalize hh_ : upd _ l4 _ = H2; have hl4 := upd_is hh_; have s2 := same_is hh_ l40; clear hh_)
    obtain ⟨mv, hmv, em⟩ := at_in (xs := [V.int 1, .int 4, .int 9, .int 30]) (i := 0 + (i : Int)) (by omega) (by show _ < (4 : Int); omega)
    obtain ⟨m, rfl, hm⟩ : ∃ m : Nat, mv = .int m ∧ (1 ≤ m ∧ m ≤ 30) := by
      simp only [List.mem_cons, List.not_mem_nil, or_false] at hmv
      rcases hmv with rfl | rfl | rfl | rfl
      · exact ⟨1, rfl, by decide, by decide⟩
      · exact ⟨4, rfl, by decide, by decide⟩
      · exact ⟨9, rfl, by decide, by decide⟩
      · exact ⟨30, rfl, by decide, by decide⟩
    refine ⟨_, rfl, l4, _, _, _, rfl, rfl, SqL.of hl4, em, t, c, 40000 * i, m, rfl, Tx.same s2, hm.1, hm.2, by omega, fun sc rs H3 S3 T3 _ => ?_⟩
    refine ⟨_, rfl, ?_⟩
    (intro sp sp0; generalize hh_ : upd _ sp _ = H4; have hsp := upd_is hh_; have s4 := same_is hh_ sp0; clear hh_)
    refine ⟨sc, sp, rs, rfl, S3.tp (Tp.same s4), hsp, fun fl fs H5 fl0 s5 hfl F5 => ?_⟩
    have T5 := (T3.same s4).same s5
    have S5 := S3.tp ((Tp.same s4).trans (Tp.same s5))
    clear s4 hsp sp0 T3 S3 s2 hl4 l40 fl0 s5
    have recs : ∀ r ∈ rs, RecAt H5 r := by
      obtain ⟨p, b, hd, g1, g2, g3⟩ := S5
      exact g2.recs
    have l30 : rs.length ≤ 30 := by
      obtain ⟨p, b, hd, g1, g2, g3⟩ := S5
      exact g3
    have lfs : fs.length = rs.length := R2L.length F5
    refine ⟨_, rfl, fl, rfl, ⟨_, SqL.of hfl⟩, ?_⟩
    intro nl nl0
    refine lc_list (K := K) (a := fl) (xs := fs.map V.ref) (fun i Hy => Hy nl = some (.lst ((rs.take i).map fun r => V.str r.name)) ∧ Same H5 Hy) ⟨upd_same, same_new nl0⟩ (fun i Hy _ ⟨_, sy⟩ => SqL.of (sy _ _ hfl)) ?_ ?_
    · rintro j v Hy hj ⟨y1, sy⟩
      obtain ⟨f', hf', rfl⟩ : ∃ f', fs[j]? = some f' ∧ V.ref f' = v := by
        rw [List.getElem?_map] at hj
        cases e : fs[j]? with
        | none => rw [e] at hj; cases hj
        | some z => rw [e] at hj; exact ⟨z, rfl, Option.some.inj hj⟩
      obtain ⟨r, er, x, y, ab, hx⟩ := R2L.get F5 hf'
      obtain ⟨hjl, ejl⟩ := List.getElem?_eq_some_iff.mp er
      obtain ⟨bx, ws, kk, ear, sh, x', y', w', h', kas, g1, _⟩ := recs r (List.mem_of_getElem? er)
      refine ⟨rfl, ?_⟩
      refine ⟨_, rfl, f', _, 0, _, rfl, rfl, SqT.of (sy _ _ hx), at0_4, r.at_, _, 0, _, rfl, rfl, SqT.of (sy _ _ g1), at0_6, _, y1, Nat.lt_of_lt_of_le (by rw [List.length_map, List.length_take]; omega : _ < 1000) (sz (by decide : 1000 ≤ 100000)), ?_⟩
      refine ⟨?_, fun p o e => by rw [upd_ne (ne_of_none e nl0)]; exact sy _ _ e⟩
      rw [upd_same, List.take_succ_eq_append_getElem hjl, List.map_append, ejl]
      rfl
    rintro H6 ⟨hnl, s6⟩
    rw [List.take_of_length_le (by rw [List.length_map]; omega)] at hnl
    have hfl6 := s6 _ _ hfl
    refine ⟨(by show 0 ≤ sizeLine; decide), ?_⟩
    (intro wl wl0; generalize hh_ : upd _ wl _ = H7; have hwl := upd_is hh_; have s7 := same_is hh_ wl0; clear hh_)
    have s57 := s6.trans s7
    refine ⟨_, rfl, fl, rfl, ⟨_, SqL.of (s7 _ _ hfl6)⟩, for_list (K := K) (a := fl) (xs := fs.map V.ref) (fun j σ Hy => ∃ (w1 : Addr) (qs : List Addr) (k7 k8 k9 k10 : Option V), σ = [some (.ref a), some (.ref t), some (.int (0 + (i : Int))), some (.ref sc), some (.ref fl), some (.ref nl), some (.ref w1), k7, k8, k9, k10, k11, k12, k13, k14] ∧ Hy w1 = some (.lst (qs.map V.ref)) ∧ PairsAt Hy qs (pairs (rs.take j)) ∧ Same H7 Hy) ?_ (fun j σ Hy _ ⟨_, _, _, _, _, _, _, _, _, sy⟩ => SqL.of (sy _ _ (s7 _ _ hfl6))) ?_ ?_⟩
    · exact ⟨wl, [], _, _, _, _, rfl, hwl, trivial, Same.refl _⟩
    · rintro j v σ Hy hj ⟨w1, qs, k7, k8, k9, k10, rfl, y1, y2, sy⟩
      obtain ⟨f', hf', rfl⟩ : ∃ f', fs[j]? = some f' ∧ V.ref f' = v := by
        rw [List.getElem?_map] at hj
        cases e : fs[j]? with
        | none => rw [e] at hj; cases hj
        | some z => rw [e] at hj; exact ⟨z, rfl, Option.some.inj hj⟩
      obtain ⟨r, er, x, y, ab, hx⟩ := R2L.get F5 hf'
      obtain ⟨hjl, ejl⟩ := List.getElem?_eq_some_iff.mp er
      have s5y := s57.trans sy
      obtain ⟨bx, ws, kk, ear, sh, x', y', w', h', kas, g1, _, _, g4, _, g6, _⟩ := (recs r (List.mem_of_getElem? er)).tp (Tp.same s5y)
      have hx' := s5y _ _ hx
      refine ⟨f', _, rfl, SqT.of hx', rfl, _, _, rfl, _, _, rfl, _, _, rfl, _, _, rfl, rfl, ?_⟩
      refine ⟨_, rfl, _, rfl, r.at_, _, 4, .ref ws, rfl, rfl, SqT.of g1, at4_6, ws, rfl, ⟨_, SqT.of g4⟩, ?_⟩
      intro dd dd0
      refine lc_tup (K := K) (a := ws) (xs := r.ws) (fun i Hz => ∃ zs : List Addr, Hz dd = some (.lst (zs.map V.ref)) ∧ PairsAt Hz zs ((r.ws.take i).map fun v => (r.name, v)) ∧ Same Hy Hz) ⟨[], upd_same, trivial, same_new dd0⟩ (fun i Hz _ ⟨zs, _, _, sz1⟩ => SqT.of (sz1 _ _ g4)) ?_ ?_
      · rintro i v Hz hi2 ⟨zs, z1, z2, sz1⟩
        obtain ⟨hil, ei⟩ := List.getElem?_eq_some_iff.mp hi2
        refine ⟨rfl, ?_⟩
        refine ⟨_, rfl, r.at_, _, 0, _, rfl, rfl, SqT.of (sz1 _ _ g1), at0_6, _, rfl, (by show 2 ≤ sizeLine; decide), ?_⟩
        (intro tt tt0; generalize hh_ : upd _ tt _ = Hw; have htt := upd_is hh_; have sw := same_is hh_ tt0; clear hh_)
        have w1' := sw _ _ z1
        have lz : zs.length ≤ 6 := by
          have e := R2L.length z2
          rw [List.length_map, List.length_take] at e
          omega
        refine ⟨_, w1', Nat.lt_of_lt_of_le (by rw [List.length_map]; omega : (zs.map V.ref).length < 1000) (sz (by decide : 1000 ≤ 100000)), ?_⟩
        refine ⟨zs ++ [tt], by rw [upd_same, List.map_append]; rfl, ?_, fun p o e => by rw [upd_ne (ne_of_none e dd0)]; exact sw _ _ (sz1 _ _ e)⟩
        rw [List.take_succ_eq_append_getElem hil, List.map_append]
        refine R2L.append ((PairsAt.tp z2 (Tp.same sw)).tp (Tp.put w1')) ⟨?_, trivial⟩
        show upd Hw dd _ tt = some (.tup [.str r.name, r.ws[i]])
        rw [upd_ne (ne_of htt w1' (by intro z; cases z)), ei]
        exact htt
      · rintro Hz ⟨zs, z1, z2, sz1⟩
        rw [List.take_of_length_le (Nat.le_refl _)] at z2
        have v1 := sz1 _ _ y1
        have b1 : (pairs (rs.take j)).length ≤ 6 * 30 := by
          refine Nat.le_trans (pairs_len fun r hr => ?_) (Nat.mul_le_mul_left 6 (by rw [List.length_take]; omega))
          obtain ⟨_, _, _, _, _, _, _, _, _, _, _, _, _, _, _, z, _⟩ := recs r (List.mem_of_mem_take hr)
          exact z
        have l1 := R2L.length y2
        have l2 := R2L.length z2
        rw [List.length_map] at l2
        refine ⟨w1, dd, _, _, rfl, rfl, v1, z1, sz (by rw [List.length_map, List.length_map]; omega), ?_⟩
        (intro w2 w20; generalize hh_ : upd _ w2 _ = Hw; have hw2 := upd_is hh_; have sw := same_is hh_ w20; clear hh_)
        refine ⟨w2, qs ++ zs, _, _, _, _, rfl, by rw [hw2, List.map_append], ?_, sy.trans (sz1.trans sw)⟩
        rw [List.take_succ_eq_append_getElem hjl, pairs_snoc, ejl]
        exact R2L.append (PairsAt.tp y2 (Tp.same (sz1.trans sw))) (z2.tp (Tp.same sw))
    rintro σ H8 ⟨w1, qs, k7, k8, k9, k10, rfl, y1, y2, s8⟩
    rw [List.take_of_length_le (by rw [List.length_map]; omega)] at y2
    have s58 := s57.trans s8
    have hnl8 := s8 _ _ (s7 _ _ hnl)
    obtain ⟨ds, pd1, pd2, pd3⟩ := pairs_data (K := K) (pairs_im recs)
    have T8 := T5.same s58
    have S8 := S5.tp (Tp.same s58)
    have p58 := Tp.same s58
    clear s8 s7 hwl wl0 s57 hnl hfl6 s6 hfl F5 lfs T5 S5 s58
    refine ⟨2, rfl, by decide, by decide, for_range (n := 2) (fun j σ Hy => ∃ (k11 k12 : Option V), σ = [some (.ref a), some (.ref t), some (.int (0 + (i : Int))), some (.ref sc), some (.ref fl), some (.ref nl), some (.ref w1), k7, k8, k9, k10, k11, k12, k13, k14] ∧ Same H8 Hy) ?_ ?_ ?_⟩
    · exact ⟨_, _, rfl, Same.refl _⟩
    · rintro j σ Hy hj ⟨k11, k12, rfl, sy⟩
      refine ⟨_, rfl, sc, rs, rfl, S8.tp (Tp.same sy), fun p1 H9 p10 s9 hp1 => ?_⟩
      refine ⟨_, rfl, sc, rs, rfl, (S8.tp (Tp.same sy)).tp (Tp.same s9), fun p2 q2 Ha p20 sa hp2 hq2 => ?_⟩
      refine ⟨(by show 2 ≤ sizeLine; decide), ?_⟩
      (intro fo fo0; generalize hh_ : upd _ fo _ = Hb; have hfo := upd_is hh_; have sb := same_is hh_ fo0; clear hh_)
      have sab := sa.trans sb
      have s8b := (sy.trans s9).trans sab
      refine ⟨_, rfl, _, rfl, _, rfl, (by show 2 ≤ sizeLine; decide), ?_⟩
      (intro ot ot0; generalize hh_ : upd _ ot _ = Hc; have hot := upd_is hh_; have scc := same_is hh_ ot0; clear hh_)
      have s8c := s8b.trans scc
      have p1c := (sab.trans scc) _ _ hp1
      have p2c := (sb.trans scc) _ _ hp2
      have q2c := hq2.tp (Tp.same (sb.trans scc))
      have foc := scc _ _ hfo
      have eq1 : (rs.map fun r => V.str r.name) = (rs.map (·.name)).map V.str := by rw [List.map_map]; rfl
      have n1 : Dp K Hc (.ref p1) (.list ((rs.map (·.name)).map PyData.str)) := dp_strL (by rw [← eq1]; exact p1c)
      have n2 : Dp K Hc (.ref nl) (.list ((rs.map (·.name)).map PyData.str)) := dp_strL (by rw [← eq1]; exact s8c _ _ hnl8)
      have m1 : Dp K Hc (.ref p2) (.list ds) := .lst (SqL.of p2c) (pd3 _ _ (p58.trans (Tp.same s8c)) q2c)
      have m2 : Dp K Hc (.ref w1) (.list ds) := .lst (SqL.of (s8c _ _ y1)) (pd3 _ _ (p58.trans (Tp.same s8c)) (y2.tp (Tp.same s8c)))
      have ppl : PyData.plain (.list [.list ((rs.map (·.name)).map PyData.str), .list ds]) = true := by
        show (PyData.plainAll _ && (PyData.plainAll ds && true)) = true
        rw [plain_strs, pd1]; rfl
      refine ⟨_, _, .lst (SqL.of foc) (.cons n1 (.cons m1 .nil)), .lst (SqL.of hot) (.cons n2 (.cons m2 .nil)), ppl, ppl, ?_, _, rfl, ?_⟩
      · have e : PyData.depth (.list [.list ((rs.map (·.name)).map PyData.str), .list ds]) = max (PyData.depthAll ((rs.map (·.name)).map PyData.str) + 1) (max (PyData.depthAll ds + 1) 0) + 1 := rfl
        rw [e, depth_strs]
        omega
      rw [SeqAt.eqv_refl_plain _ ppl]
      refine iteF ?_
      refine ⟨_, rfl, fo, _, 0, _, rfl, rfl, SqL.of foc, at0_2, .inl ⟨rfl, _, SqL.of p1c⟩, p1, _, rfl, rfl, p1c, ?_⟩
      have p1H := (sy.free p10)
      have s8d : Same H8 (upd Hc p1 (.lst (rs.map fun r => V.str r.name).reverse)) := fun p o e => by
        rw [upd_ne (ne_of_none e p1H)]
        exact s8c _ _ e
      have fop : fo ≠ p1 := ne_fresh (sa _ _ hp1) fo0
      have p21 : p2 ≠ p1 := ne_fresh hp1 p20
      have fod : (upd Hc p1 (.lst (rs.map fun r => V.str r.name).reverse)) fo = some (.lst [.ref p1, .ref p2]) := by
        rw [upd_ne fop]
        exact foc
      have p2d : (upd Hc p1 (.lst (rs.map fun r => V.str r.name).reverse)) p2 = some (.lst (q2.map V.ref)) := by
        rw [upd_ne p21]
        exact p2c
      have b1 : (pairs rs).length ≤ 6 * 30 := by
        refine Nat.le_trans (pairs_len fun r hr => ?_) (Nat.mul_le_mul_left 6 l30)
        obtain ⟨_, _, _, _, _, _, _, _, _, _, _, _, _, _, _, z, _⟩ := recs r hr
        exact z
      have l2 := R2L.length hq2
      refine ⟨_, rfl, fo, _, 1, _, rfl, rfl, SqL.of fod, at1_2, .inl ⟨rfl, _, SqL.of p2d⟩, p2, _, _, rfl, rfl, p2d, Nat.lt_of_lt_of_le (by rw [List.length_map]; omega : (q2.map V.ref).length < 1000) (sz (by decide : 1000 ≤ 100000)), ?_⟩
      exact ⟨_, _, rfl, fun p o e => by rw [upd_ne (ne_of_none e ((sy.trans s9).free p20))]; exact s8d _ _ e⟩
    · rintro σ Hy ⟨k11, k12, rfl, sy⟩
      exact ⟨_, rfl, rfl, (T8.same sy).mono (by omega)⟩
  · rintro σ Hx ⟨ks, rfl, lks, Tx⟩
    exact k Hx
end
end SG
namespace SG
open PySem PySem.Spec PyProof.Rows L2
theorem all_mk {l : PySem.W.OpenLaw} {w : World} {K : PySem.W.Frag} {h : Heap} {mg : Str → Option Value} {fa f1 f2 f3 f4 f5 f6 f7 f8 f9 f10 f11 f12 f13 : Addr} (X : K.In h) (G : h.Ns mainGlobals mg) (hfa : mg "law" = some (.ref fa)) {od1 an1 od2 an2 od3 an3 od4 an4 od5 an5 od6 an6 od7 an7 od8 an8 od9 an9 od10 an10 od11 an11 od12 an12 od13 an13 : Option Addr} {sl1 sl2 sl3 sl4 sl5 sl6 sl7 sl8 sl9 sl10 sl11 sl12 sl13 : Array (Option Value)} {oc1 kV1 dc1 pm1 cd1 ct1 oc2 kV2 dc2 pm2 cd2 ct2 oc3 kV3 dc3 pm3 cd3 ct3 oc4 kV4 dc4 pm4 cd4 ct4 oc5 kV5 dc5 pm5 cd5 ct5 oc6 kV6 dc6 pm6 cd6 ct6 oc7 kV7 dc7 pm7 cd7 ct7 oc8 kV8 dc8 pm8 cd8 ct8 oc9 kV9 dc9 pm9 cd9 ct9 oc10 kV10 dc10 pm10 cd10 ct10 oc11 kV11 dc11 pm11 cd11 ct11 oc12 kV12 dc12 pm12 cd12 ct12 oc13 kV13 dc13 pm13 cd13 ct13 : Value} {tNAME tPARTS : Tok}
    (a1 : PySem.W.nsIn K mainGlobals "parts_of" = some (some (.ref f1)))
    (l1 : K.lookup f1 = some ⟨oc1, od1, .func (PySem.W.fnOf "parts_of" "parts_of" (defArgs sparts_of) (defBody sparts_of) (defScope sparts_of) .none kV1 dc1 pm1 an1 cd1 ct1), sl1⟩)
    (c1 : PySem.W.codeIn K cd1 "parts_of" = true)
    (k1 : PySem.W.keepIn K (.ref f1) = true)
    (a2 : PySem.W.nsIn K mainGlobals "wishes_of" = some (some (.ref f2)))
    (l2 : K.lookup f2 = some ⟨oc2, od2, .func (PySem.W.fnOf "wishes_of" "wishes_of" (defArgs swishes_of) (defBody swishes_of) (defScope swishes_of) .none kV2 dc2 pm2 an2 cd2 ct2), sl2⟩)
    (c2 : PySem.W.codeIn K cd2 "wishes_of" = true)
    (k2 : PySem.W.keepIn K (.ref f2) = true)
    (a3 : PySem.W.nsIn K mainGlobals "_with_inner" = some (some (.ref f3)))
    (l3 : K.lookup f3 = some ⟨oc3, od3, .func (PySem.W.fnOf "_with_inner" "_with_inner" (defArgs s_with_inner) (defBody s_with_inner) (defScope s_with_inner) .none kV3 dc3 pm3 an3 cd3 ct3), sl3⟩)
    (c3 : PySem.W.codeIn K cd3 "_with_inner" = true)
    (k3 : PySem.W.keepIn K (.ref f3) = true)
    (a4 : PySem.W.nsIn K mainGlobals "_law_tape" = some (some (.ref f4)))
    (l4 : K.lookup f4 = some ⟨oc4, od4, .func (PySem.W.fnOf "_law_tape" "_law_tape" (defArgs s_law_tape) (defBody s_law_tape) (defScope s_law_tape) .none kV4 dc4 pm4 an4 cd4 ct4), sl4⟩)
    (c4 : PySem.W.codeIn K cd4 "_law_tape" = true)
    (k4 : PySem.W.keepIn K (.ref f4) = true)
    (a5 : PySem.W.nsIn K mainGlobals "_law_draw" = some (some (.ref f5)))
    (l5 : K.lookup f5 = some ⟨oc5, od5, .func (PySem.W.fnOf "_law_draw" "_law_draw" (defArgs s_law_draw) (defBody s_law_draw) (defScope s_law_draw) .none kV5 dc5 pm5 an5 cd5 ct5), sl5⟩)
    (c5 : PySem.W.codeIn K cd5 "_law_draw" = true)
    (k5 : PySem.W.keepIn K (.ref f5) = true)
    (a6 : PySem.W.nsIn K mainGlobals "_law_words" = some (some (.ref f6)))
    (l6 : K.lookup f6 = some ⟨oc6, od6, .func (PySem.W.fnOf "_law_words" "_law_words" (defArgs s_law_words) (defBody s_law_words) (defScope s_law_words) .none kV6 dc6 pm6 an6 cd6 ct6), sl6⟩)
    (c6 : PySem.W.codeIn K cd6 "_law_words" = true)
    (k6 : PySem.W.keepIn K (.ref f6) = true)
    (a7 : PySem.W.nsIn K mainGlobals "_law_machine" = some (some (.ref f7)))
    (l7 : K.lookup f7 = some ⟨oc7, od7, .func (PySem.W.fnOf "_law_machine" "_law_machine" (defArgs s_law_machine) (defBody s_law_machine) (defScope s_law_machine) .none kV7 dc7 pm7 an7 cd7 ct7), sl7⟩)
    (c7 : PySem.W.codeIn K cd7 "_law_machine" = true)
    (k7 : PySem.W.keepIn K (.ref f7) = true)
    (a8 : PySem.W.nsIn K mainGlobals "_law_wish" = some (some (.ref f8)))
    (l8 : K.lookup f8 = some ⟨oc8, od8, .func (PySem.W.fnOf "_law_wish" "_law_wish" (defArgs s_law_wish) (defBody s_law_wish) (defScope s_law_wish) .none kV8 dc8 pm8 an8 cd8 ct8), sl8⟩)
    (c8 : PySem.W.codeIn K cd8 "_law_wish" = true)
    (k8 : PySem.W.keepIn K (.ref f8) = true)
    (a9 : PySem.W.nsIn K mainGlobals "_law_part" = some (some (.ref f9)))
    (l9 : K.lookup f9 = some ⟨oc9, od9, .func (PySem.W.fnOf "_law_part" "_law_part" (defArgs s_law_part) (defBody s_law_part) (defScope s_law_part) .none kV9 dc9 pm9 an9 cd9 ct9), sl9⟩)
    (c9 : PySem.W.codeIn K cd9 "_law_part" = true)
    (k9 : PySem.W.keepIn K (.ref f9) = true)
    (a10 : PySem.W.nsIn K mainGlobals "_law_pairs" = some (some (.ref f10)))
    (l10 : K.lookup f10 = some ⟨oc10, od10, .func (PySem.W.fnOf "_law_pairs" "_law_pairs" (defArgs s_law_pairs) (defBody s_law_pairs) (defScope s_law_pairs) .none kV10 dc10 pm10 an10 cd10 ct10), sl10⟩)
    (c10 : PySem.W.codeIn K cd10 "_law_pairs" = true)
    (k10 : PySem.W.keepIn K (.ref f10) = true)
    (a11 : PySem.W.nsIn K mainGlobals "_law_scene" = some (some (.ref f11)))
    (l11 : K.lookup f11 = some ⟨oc11, od11, .func (PySem.W.fnOf "_law_scene" "_law_scene" (defArgs s_law_scene) (defBody s_law_scene) (defScope s_law_scene) .none kV11 dc11 pm11 an11 cd11 ct11), sl11⟩)
    (c11 : PySem.W.codeIn K cd11 "_law_scene" = true)
    (k11 : PySem.W.keepIn K (.ref f11) = true)
    (a12 : PySem.W.nsIn K mainGlobals "_law_flat" = some (some (.ref f12)))
    (l12 : K.lookup f12 = some ⟨oc12, od12, .func (PySem.W.fnOf "_law_flat" "_law_flat" (defArgs s_law_flat) (defBody s_law_flat) (defScope s_law_flat) .none kV12 dc12 pm12 an12 cd12 ct12), sl12⟩)
    (c12 : PySem.W.codeIn K cd12 "_law_flat" = true)
    (k12 : PySem.W.keepIn K (.ref f12) = true)
    (a13 : PySem.W.nsIn K mainGlobals "law" = some (some (.ref f13)))
    (l13 : K.lookup f13 = some ⟨oc13, od13, .func (PySem.W.fnOf "law" "law" (defArgs slaw) (defBody slaw) (defScope slaw) .none kV13 dc13 pm13 an13 cd13 ct13), sl13⟩)
    (c13 : PySem.W.codeIn K cd13 "law" = true)
    (k13 : PySem.W.keepIn K (.ref f13) = true)
    (zlen : PySem.W.nsIn K mainGlobals "len" = some none)
    (zlist : PySem.W.nsIn K mainGlobals "list" = some none)
    (zrange : PySem.W.nsIn K mainGlobals "range" = some none)
    (ztuple : PySem.W.nsIn K mainGlobals "tuple" = some none)
    (yNAME : PySem.W.nsIn K mainGlobals "NAME" = some (some (.int 0 tNAME)))
    (yPARTS : PySem.W.nsIn K mainGlobals "PARTS" = some (some (.int 5 tPARTS)))
    : ∃ fd : FuncData, (∀ (s : Shared) (v : Value), BindsTo s fd ⟨[v], []⟩ [("_law_script", v)]) ∧ ∀ base : Heap, K.In base → base.Ns mainGlobals mg → FnOk l.prog w K mg base CX0 11 fa fd ["_law_script"] (spLaw K) := by
  have e := hfa.symm.trans (PySem.W.mg_of X G a13)
  cases e
  have T : Txt K mg := ⟨PySem.W.mg_none_of X G zlen, PySem.W.mg_none_of X G zlist, PySem.W.mg_none_of X G zrange, PySem.W.mg_none_of X G ztuple, ⟨_, PySem.W.mg_of X G yNAME⟩, ⟨_, PySem.W.mg_of X G yPARTS⟩⟩
  have F1 := fun_mk (st := sparts_of) l1 c1 k1
  have Dparts_of : Df K mg "parts_of" sparts_of ["scene"] := ⟨⟨_, _, F1, PySem.W.mg_of X G a1, F1.binds (ps := ["scene"]) fun _ _ _ _ _ _ us hl => match us, hl with | [_], _ => rfl⟩⟩
  have F2 := fun_mk (st := swishes_of) l2 c2 k2
  have Dwishes_of : Df K mg "wishes_of" swishes_of ["scene"] := ⟨⟨_, _, F2, PySem.W.mg_of X G a2, F2.binds (ps := ["scene"]) fun _ _ _ _ _ _ us hl => match us, hl with | [_], _ => rfl⟩⟩
  have F3 := fun_mk (st := s_with_inner) l3 c3 k3
  have D_with_inner : Df K mg "_with_inner" s_with_inner ["part"] := ⟨⟨_, _, F3, PySem.W.mg_of X G a3, F3.binds (ps := ["part"]) fun _ _ _ _ _ _ us hl => match us, hl with | [_], _ => rfl⟩⟩
  have F4 := fun_mk (st := s_law_tape) l4 c4 k4
  have D_law_tape : Df K mg "_law_tape" s_law_tape ["_law_script"] := ⟨⟨_, _, F4, PySem.W.mg_of X G a4, F4.binds (ps := ["_law_script"]) fun _ _ _ _ _ _ us hl => match us, hl with | [_], _ => rfl⟩⟩
  have F5 := fun_mk (st := s_law_draw) l5 c5 k5
  have D_law_draw : Df K mg "_law_draw" s_law_draw ["_law_tape_here", "_law_many"] := ⟨⟨_, _, F5, PySem.W.mg_of X G a5, F5.binds (ps := ["_law_tape_here", "_law_many"]) fun _ _ _ _ _ _ us hl => match us, hl with | [_, _], _ => rfl⟩⟩
  have F6 := fun_mk (st := s_law_words) l6 c6 k6
  have D_law_words : Df K mg "_law_words" s_law_words ["_law_tape_here", "_law_many"] := ⟨⟨_, _, F6, PySem.W.mg_of X G a6, F6.binds (ps := ["_law_tape_here", "_law_many"]) fun _ _ _ _ _ _ us hl => match us, hl with | [_, _], _ => rfl⟩⟩
  have F7 := fun_mk (st := s_law_machine) l7 c7 k7
  have D_law_machine : Df K mg "_law_machine" s_law_machine ["_law_tape_here"] := ⟨⟨_, _, F7, PySem.W.mg_of X G a7, F7.binds (ps := ["_law_tape_here"]) fun _ _ _ _ _ _ us hl => match us, hl with | [_], _ => rfl⟩⟩
  have F8 := fun_mk (st := s_law_wish) l8 c8 k8
  have D_law_wish : Df K mg "_law_wish" s_law_wish ["_law_tape_here", "_law_label"] := ⟨⟨_, _, F8, PySem.W.mg_of X G a8, F8.binds (ps := ["_law_tape_here", "_law_label"]) fun _ _ _ _ _ _ us hl => match us, hl with | [_, _], _ => rfl⟩⟩
  have F9 := fun_mk (st := s_law_part) l9 c9 k9
  have D_law_part : Df K mg "_law_part" s_law_part ["_law_tape_here", "_law_box", "_law_room"] := ⟨⟨_, _, F9, PySem.W.mg_of X G a9, F9.binds (ps := ["_law_tape_here", "_law_box", "_law_room"]) fun _ _ _ _ _ _ us hl => match us, hl with | [_, _, _], _ => rfl⟩⟩
  have F10 := fun_mk (st := s_law_pairs) l10 c10 k10
  have D_law_pairs : Df K mg "_law_pairs" s_law_pairs ["_law_tape_here", "_law_labels"] := ⟨⟨_, _, F10, PySem.W.mg_of X G a10, F10.binds (ps := ["_law_tape_here", "_law_labels"]) fun _ _ _ _ _ _ us hl => match us, hl with | [_, _], _ => rfl⟩⟩
  have F11 := fun_mk (st := s_law_scene) l11 c11 k11
  have D_law_scene : Df K mg "_law_scene" s_law_scene ["_law_tape_here", "_law_many", "_law_labels"] := ⟨⟨_, _, F11, PySem.W.mg_of X G a11, F11.binds (ps := ["_law_tape_here", "_law_many", "_law_labels"]) fun _ _ _ _ _ _ us hl => match us, hl with | [_, _, _], _ => rfl⟩⟩
  have F12 := fun_mk (st := s_law_flat) l12 c12 k12
  have D_law_flat : Df K mg "_law_flat" s_law_flat ["_law_scene_here", "_law_spots"] := ⟨⟨_, _, F12, PySem.W.mg_of X G a12, F12.binds (ps := ["_law_scene_here", "_law_spots"]) fun _ _ _ _ _ _ us hl => match us, hl with | [_, _], _ => rfl⟩⟩
  have F13 := fun_mk (st := slaw) l13 c13 k13
  refine ⟨PySem.W.fnOf "law" "law" (defArgs slaw) (defBody slaw) (defScope slaw) .none kV13 dc13 pm13 an13 cd13 ct13, fun s v => .of_eq rfl, fun base _ _ => ?_⟩
  have Flaw := F13
  have draw := ok_draw (P := l.prog) (w := w) (base := base) D_law_draw T
  have words := ok_words D_law_words T draw
  have machine := ok_machine D_law_machine T draw
  have wish := ok_wish D_law_wish T draw machine
  have part := all_part D_law_part T draw wish 5
  have prs := ok_pairs D_law_pairs T draw
  have scene := ok_scene D_law_scene T draw words part prs
  have flat := ok_flat (P := l.prog) (w := w) (base := base) D_law_flat T
  have inner := ok_inner (P := l.prog) (w := w) (base := base) D_with_inner T 6
  have pof := ok_parts_of Dparts_of T inner
  have wof := ok_wishes_of Dwishes_of T inner
  exact ok_law Flaw T (ok_tape D_law_tape T) scene flat pof wof
theorem walk {l : PySem.W.OpenLaw} {q : Program} {loose : List Str} {XP : (Str → Option Value) → Heap → Prop} {YP : World → Heap → Prop} {d : DefRec} {K : Params → PySem.W.Frag} (hn : l.most = some 63) (hdf : d.params.defaults = [])
    (hY : ∀ (w : World) (h : Heap), YP w h → (K w.params).In h)
    (F : ∀ (w : World) (mg : Str → Option Value) (fa : Addr) (h : Heap), (K w.params).In h → h.Ns mainGlobals mg → mg d.name = some (.ref fa) →
      ∃ fd : FuncData, (∀ (s : Shared) (u : Value), BindsTo s fd ⟨[u], []⟩ [("_law_script", u)]) ∧ ∀ base : Heap, (K w.params).In base → base.Ns mainGlobals mg → FnOk l.prog w (K w.params) mg base CX0 11 fa fd ["_law_script"] (spLaw (K w.params))) :
    PySem.W.WalkO q loose XP YP l.row.toRowW d [] (fun f vs => PySem.call f vs) :=
  L2.walk_of (n := 63) (k := 11) (x := "_law_script") (CX := fun _ => CX0) (sp := fun w => spLaw (K w.params)) hn (by decide) hdf ⟨rfl, by decide, by decide⟩ hY F (fun _ _ a ns hl _ hS => ⟨a, ns, rfl, hS, hl, fun _ => rfl⟩) fun _ _ _ _ _ z => z
end SG
open PySem PySem.W PyProof.Rows
set_option maxRecDepth 100000 in
set_option maxHeartbeats 0 in
theorem PySem.Challenge.cw_strokeguess_k02_parts_and_wishes_holds : PySem.Challenge.rw_strokeguess_k02_parts_and_wishes.Holds := by
  w_on; o_law; k_head; (case hw => w_witness2)
  k_fill
  refine SG.walk (l := PySem.Challenge.rw_strokeguess_k02_parts_and_wishes) rfl rfl (fun w h Y => PySem.W.kIn_of Y) ?F
  case F =>
    intro w mg fa h KX G hmg
    refine' SG.all_mk KX G hmg ?a1 ?l1 ?c1 ?k1 ?a2 ?l2 ?c2 ?k2 ?a3 ?l3 ?c3 ?k3 ?a4 ?l4 ?c4 ?k4 ?a5 ?l5 ?c5 ?k5 ?a6 ?l6 ?c6 ?k6 ?a7 ?l7 ?c7 ?k7 ?a8 ?l8 ?c8 ?k8 ?a9 ?l9 ?c9 ?k9 ?a10 ?l10 ?c10 ?k10 ?a11 ?l11 ?c11 ?k11 ?a12 ?l12 ?c12 ?k12 ?a13 ?l13 ?c13 ?k13 ?zlen ?zlist ?zrange ?ztuple ?yNAME ?yPARTS
    (case a1 => k_is)
    (case l1 => k_is)
    (case c1 => k_is)
    (case k1 => k_is)
    (case a2 => k_is)
    (case l2 => k_is)
    (case c2 => k_is)
    (case k2 => k_is)
    (case a3 => k_is)
    (case l3 => k_is)
    (case c3 => k_is)
    (case k3 => k_is)
    (case a4 => k_is)
    (case l4 => k_is)
    (case c4 => k_is)
    (case k4 => k_is)
    (case a5 => k_is)
    (case l5 => k_is)
    (case c5 => k_is)
    (case k5 => k_is)
    (case a6 => k_is)
    (case l6 => k_is)
    (case c6 => k_is)
    (case k6 => k_is)
    (case a7 => k_is)
    (case l7 => k_is)
    (case c7 => k_is)
    (case k7 => k_is)
    (case a8 => k_is)
    (case l8 => k_is)
    (case c8 => k_is)
    (case k8 => k_is)
    (case a9 => k_is)
    (case l9 => k_is)
    (case c9 => k_is)
    (case k9 => k_is)
    (case a10 => k_is)
    (case l10 => k_is)
    (case c10 => k_is)
    (case k10 => k_is)
    (case a11 => k_is)
    (case l11 => k_is)
    (case c11 => k_is)
    (case k11 => k_is)
    (case a12 => k_is)
    (case l12 => k_is)
    (case c12 => k_is)
    (case k12 => k_is)
    (case a13 => k_is)
    (case l13 => k_is)
    (case c13 => k_is)
    (case k13 => k_is)
    (case zlen => k_is)
    (case zlist => k_is)
    (case zrange => k_is)
    (case ztuple => k_is)
    (case yNAME => k_is)
    (case yPARTS => k_is)
