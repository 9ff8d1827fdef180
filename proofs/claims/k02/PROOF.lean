import PyProof.Rows.All
import Wide.All
import OpenK.AllK
import Wide.FinOn
import HandS.ForMost
import HandS.Star
import HandS.Property
import HandS.OwnEq
import HandS.Wide
import HandS.WideBits
import HandS.Flow
import HandS.Defaults
import HandS.MakeKw
import HandS.MapObj
import HandS.IsInst
import HandS.Walk
import PySem.Challenge.RW_squareloops_k02_loops_of_nests
set_option Elab.async false
set_option maxRecDepth 100000
set_option maxHeartbeats 8000000
namespace Sq
open PySem L2 PySem.Spec PyProof.Rows

/-- a promise that is kept where no repr is under way -/
def FnG (P : Program) (w : World) (K : PySem.W.Frag) (mg : Str → Option Value) (base : Heap) (k : Nat) (f : Addr) (sp : Sp) : Prop :=
  ∀ (A : Around) (fr : List Env) (s : Shared) (H : Hp) (us : List Value) (vs : List V) (Q : VK), A.guards = some [] → Room k A →
    Env0 P w K mg base A fr s H → Vals vs us → sp vs H Q E0 → codeAny (model P w) A (.call (.ref f) ⟨us, []⟩) (CR CX0 fr P w H s Q E0) s

section
variable {P : Program} {w : World} {K : PySem.W.Frag} {mg : Str → Option Value} {base : Heap} {k : Nat} {f : Addr} {fd : FuncData} {sp : Sp} {x qual : Str} {st : Stmt} {N ps : List Str}

theorem FnG.of (F : Fun K x qual st f fd) (S : FnScope N ps (defScope st)) (b : Binds K fd ps []) (len : ∀ vs H Q, sp vs H Q E0 → vs.length = ps.length)
    (hbody : ∀ (cdv : Value) (A : Around) (fr : List Env) (s : Shared) (H : Hp) (vs : List V) (Q : VK),
      (A.deeper (envOfC qual (defScope st) s.heap.objs.size f cdv)).guards = some [] →
      Room k (A.deeper (envOfC qual (defScope st) s.heap.objs.size f cdv)) → sp vs H Q E0 →
      ∃ t, PSs (cxOf CX0 P w K mg base N qual (defScope st) f cdv A fr s H E0).nox (defBody st) t ∧
        t { nx := fun _ H' => Q .non H', rt := Q } (L2.start N vs) H) : FnG P w K mg base (k + 1) f sp := by
  intro A fr s H us vs Q hg hr e0 r hs
  obtain ⟨oc, od, kV, doc, pm, an, cdv, ct, osl, rfl, lk, hcd⟩ := F.ex
  have hin : K.In s.heap := e0.mod.kin.keeps fun b o e => (e0.bs b o e).1
  have hl : vs.length = ps.length := len vs H Q hs
  have hu : (us ++ []).length = ps.length := by
    rw [List.append_nil, ← r.length]
    exact hl
  refine StX.run_bnd lk hcd S hr e0 (G := fun vs' H2 => vs' = vs ∧ H2 = H) (fun A' Ex Q' h => ?_) fun s2 H2 vs' hv hr' => ?_
  · have z := b s us hin hu
    rw [List.append_nil] at z
    exact z (model P w) A' Ex Q' (h s H vs us e0 Un.refl rfl (fun _ _ q => q) r hl ⟨rfl, rfl⟩)
  · obtain ⟨e1, e2⟩ := hv
    subst e1 e2
    obtain ⟨t, ht, q⟩ := hbody cdv A fr s2 _ _ Q hg hr' hs
    exact ⟨t, ht.nox, q⟩
theorem FnG.ofR (F : FnR P w K mg base CX0 k f sp) : FnG P w K mg base k f sp := fun A fr s H us vs Q _ hr e0 r h => F A fr s H us vs Q E0 hr e0 r h
end

section
variable {X : Cx} {k : Nat} {f : Addr} {sp : Sp} {x : Str} {p pos : Pos} {e : Expr} {es : List Expr} {t : TA}
theorem run_fnG {pins : List (Addr × Obj)} {σ : L2.St} {H : Hp} {s : Shared} {Q : VK} {us : List Value} {vs : List V} (F : FnG X.prog X.w X.K X.mg X.base k f sp)
    (hg : X.A.guards = some []) (hr : Room k X.A) (I : Inv X pins σ H s) (r : Vals vs us) (h : sp vs H Q E0) :
    wpAny (model X.prog X.w) X.A (call (.ref f) us) (EP X pins σ Q) X.xe s := by
  refine wpAny_call (codeAny_mono (F X.A X.stack s H us vs Q hg hr I.env0 r h) fun z s' hz => ?_)
  match z, hz with
  | .error _, hz => exact False.elim hz
  | .ok (.ret _), hz => exact I.after hz
  | .ok .next, hz => exact False.elim hz
  | .ok .brk, hz => exact False.elim hz
  | .ok .cont, hz => exact False.elim hz
def tCallG (sp : Sp) (t : TA) : TE := fun σ H Q => t σ H fun vs H1 => sp vs H1 Q E0
/-- f(e, ..) by such a promise -/
theorem pe_callG (F : FnG X.prog X.w X.K X.mg X.base k f sp) (hg : X.A.guards = some []) (hr : Room k X.A) (hgl : Gl X x) (hm : X.mg x = some (.ref f))
    (hk : PySem.W.keepIn X.K (.ref f) = true) (ha : PA X (e :: es) t) (hdb : (x == ("__debug__" : Str)) = false := by decide)
    (he : starEach (e :: es) X.env = (false, eval e X.env) :: starEach es X.env := by rfl)
    (hpl : (backTo pos (starEach es X.env)).any (·.1) = false := by rfl) : PE X (.Call (.Name x p) (e :: es) [] pos) (tCallG sp t) := by
  constructor
  intro pins s σ H Q I h
  apply wpAny_Call_Name_kw
  refine ld_glob I hgl hm (PySem.W.callWith_K (h₀ := X.base) I.ok.mod.kin hk ?_ he hpl) hdb
  refine thn (ha.run pos pins s σ H _ I h) ?_
  rintro us s1 ⟨vs, H1, I1, r, q⟩
  exact ⟨I1.kIn, run_fnG F hg hr I1 r q⟩

/-- repr of data: what is shown, exactly -/
def rRepr (K : PySem.W.Frag) : List V → Hp → VK → Prop := fun xs H Q => ∃ (a : Addr) (d : PyData), xs = [.ref a] ∧ Dp K H (.ref a) d ∧ d.showable = true ∧ d.hasDict = false ∧ d.depth ≤ 20 ∧ d.shown.length ≤ sizeLine ∧ Q (.str d.shown) H
theorem call_repr (hg : X.A.guards = some []) (hr : Room k X.A) : CallR X (.builtin "repr") (rRepr X.K) := by
  intro pins s σ H xs us Q I r h
  obtain ⟨a, d, rfl, hd, h1, h2, h3, h4, q⟩ := h
  obtain ⟨u, rfl, r1⟩ := vals1 r
  obtain ⟨as, rd⟩ := Dp.reads I d _ u hd r1
  cases r1
  have hu := hr.units
  refine repr_of_reads' rd h1 (fun z => by rw [h2] at z; cases z) hg (by omega) (fun _ _ z => z) (fun h' u' tk kp => ?_) h4
  exact ⟨.str d.shown, H, I.kept kp, ⟨u', rfl⟩, q⟩
end
end Sq
namespace Sq
open PySem L2 PySem.Spec PyProof.Rows

section
variable {P : Program} {w : World} {K : PySem.W.Frag} {mg mb : Str → Option Value} {k : Nat} {fa a : Addr} {sp : Sp} {s1 : Shared} {vs : List Value} {ns : List Int}
/-- the law's own call, from such a promise of it, over one abstract heap -/
theorem end_core (KX : K.In s1.heap) (hns : s1.heap.Ns mainGlobals mg) (hb : s1.heap.Ns builtinsNs mb) (hbb : ∀ x : Str, x ≠ "__name__" → mb x = bootBuiltins x)
    (hlim : s1.heap.NoLimit) (hg : s1.gens = #[]) (ha : s1.heap.get? a = some { cls := .type "list", data := .seq vs.toArray }) (hr : Room k callerA)
    (F : ∀ base : Heap, K.In base → base.Ns mainGlobals mg → FnG P w K mg base k fa sp)
    (H : Hp) (hO : Only H) (hsp : sp [.ref a] H (fun v _ => v = .bl true) E0) (hok : HOk P w H s1.heap) (hA : ∀ b, H b ≠ none → b = a) (hK : H a ≠ none → K.lookup a = none) :
    codeAny (model P w) callerA (.call (.ref fa) ⟨[.ref a], []⟩) (fun r s' => r = .ok (.ret (.bool true)) ∧ OldK s1.heap s'.heap ∧ s'.os = s1.os ∧ AllBare s'.gens) s1 := by
  have free : ∀ {b : Addr} {o : Obj}, s1.heap.get? b = some o → o ≠ { cls := .type "list", data := .seq vs.toArray } → H b = none := by
    intro b o e n
    refine Classical.byContradiction fun q => n ?_
    have eb := hA b q
    rw [eb, ha] at e
    exact (Option.some.inj e).symm
  have ns1 : ∀ {b : Addr} {m : Str → Option Value}, s1.heap.Ns b m → (hidT s1.heap H).Ns b m := by
    rintro b m ⟨o, es, ep, e, d, r⟩
    refine ⟨o, es, ep, hidT_get e (free e fun q => ?_), d, r⟩
    rw [q] at d
    cases d
  have kin : K.In (hidT s1.heap H) := by
    intro b o e
    refine hidT_get (KX b o e) (Classical.byContradiction fun q => ?_)
    have eb := hA b q
    rw [eb] at e q
    rw [hK q] at e
    cases e
  have md : Mod K mg (hidT s1.heap H) := by
    obtain ⟨mc, h1, h2⟩ := hlim
    exact ⟨kin, ns1 hns, ⟨mb, ns1 hb, hbb⟩, ⟨mc, ns1 h1, h2⟩⟩
  have e0 : Env0 P w K mg (hidT s1.heap H) callerA [] s1 H :=
    { frames := rfl, mod := md, bs := fun b o e => of_hidT e, bsz := Nat.le_of_eq (hidT_size _ _), funs := trivial, frf := fun b hb => (by cases hb), hok := hok, bare := .of_eq hg }
  have run := F _ kin (ns1 hns) callerA [] s1 H [.ref a] [.ref a] (fun v _ => v = .bl true) rfl hr e0 (.cons rfl .nil) hsp
  refine codeAny_mono run fun r s' h => ?_
  match r, h with
  | .error _, h => exact False.elim h
  | .ok .next, h => exact False.elim h
  | .ok .brk, h => exact False.elim h
  | .ok .cont, h => exact False.elim h
  | .ok (.ret u), h =>
    obtain ⟨v, H', os, bare, un, hok', r', q⟩ := h
    cases (show v = .bl true from q)
    cases (show u = Value.bool true from r')
    refine ⟨rfl, OldK.of_keep fun b o e => ?_, os, bare⟩
    rcases hO b with z | ⟨ob, xs, z⟩
    · exact un.keep b o e z (fun q => by cases q) (fun q => by cases q)
    · have e1 := (hok b _ z).1
      have e2 := (hok' b _ (un.frzs b ob _ z)).1
      exact e2.trans (e1.symm.trans e)

theorem end_call (KX : K.In s1.heap) (hns : s1.heap.Ns mainGlobals mg) (hb : s1.heap.Ns builtinsNs mb) (hbb : ∀ x : Str, x ≠ "__name__" → mb x = bootBuiltins x)
    (hlim : s1.heap.NoLimit) (hg : s1.gens = #[]) (ha : s1.heap.get? a = some { cls := .type "list", data := .seq vs.toArray }) (hi : IntsAre vs ns) (hl : ns.length ≤ sizeLine)
    (hr : Room k callerA) (F : ∀ base : Heap, K.In base → base.Ns mainGlobals mg → FnG P w K mg base k fa sp)
    (hsp : ∀ H : Hp, Only H → SqL K H a (ns.map V.int) → sp [.ref a] H (fun v _ => v = .bl true) E0) :
    codeAny (model P w) callerA (.call (.ref fa) ⟨[.ref a], []⟩) (fun r s' => r = .ok (.ret (.bool true)) ∧ OldK s1.heap s'.heap ∧ s'.os = s1.os ∧ AllBare s'.gens) s1 := by
  have rv := vals_ints hi
  have ez : vs.toArray.size ≤ sizeLine := by
    rw [List.size_toArray, hi.length]
    exact hl
  by_cases hk : K.lookup a = none
  · let H : Hp := fun b => if b = a then some (.frz { cls := .type "list", data := .seq vs.toArray } (.lst (ns.map V.int))) else none
    have at_a : H a = some (.frz { cls := .type "list", data := .seq vs.toArray } (.lst (ns.map V.int))) := if_pos rfl
    have off : ∀ {b : Addr}, b ≠ a → H b = none := fun q => if_neg q
    have only : Only H := fun b => by
      by_cases q : b = a
      · exact .inr ⟨_, _, q ▸ at_a⟩
      · exact .inl (off q)
    refine end_core KX hns hb hbb hlim hg ha hr F H only (hsp H only (.inl (.inr ⟨_, at_a⟩))) (fun b u z => ?_) (fun b z => Classical.byContradiction fun q => z (off q)) fun _ => hk
    by_cases q : b = a
    · subst q
      cases at_a.symm.trans z
      exact ⟨ha, by rw [List.length_map]; exact hl, vs, _, rv, ha⟩
    · cases (off q).symm.trans z
  · obtain ⟨o, ho⟩ := Option.ne_none_iff_exists'.mp hk
    have e := (KX a o ho).symm.trans ha
    cases e
    refine end_core KX hns hb hbb hlim hg ha hr F (fun _ => none) (fun _ => .inl rfl) (hsp _ (fun _ => .inl rfl) (.inr ⟨_, vs.toArray, _, ho, rfl, rfl, rfl, ez, by simpa using rv⟩)) (fun b u z => by cases z) (fun b z => absurd rfl z) fun z => absurd rfl z
end

/-- the goal that k_head leaves, from such a promise of the law -/
theorem walkG {l : PySem.W.OpenLaw} {n k : Nat} {q : Program} {loose : List Str} {XP : (Str → Option Value) → Heap → Prop} {YP : World → Heap → Prop} {d : DefRec} {K : Params → PySem.W.Frag} {sp : PySem.W.Frag → Sp}
    (hn : l.most = some n) (hn2 : n ≤ sizeLine) (hdf : d.params.defaults = []) (hr : Room k callerA) (hY : ∀ (w : World) (h : Heap), YP w h → (K w.params).In h)
    (F : ∀ (w : World) (mg : Str → Option Value) (fa : Addr) (h : Heap), (K w.params).In h → h.Ns mainGlobals mg → mg d.name = some (.ref fa) →
      ∀ base : Heap, (K w.params).In base → base.Ns mainGlobals mg → FnG l.prog w (K w.params) mg base k fa (sp (K w.params)))
    (hsp : ∀ (K : PySem.W.Frag) (H : Hp) (a : Addr) (ns : List Int), ns.length ≤ n → Only H → SqL K H a (ns.map V.int) → sp K [.ref a] H (fun v _ => v = .bl true) E0) :
    PySem.W.WalkO q loose XP YP l.row.toRowW d [] (fun f vs => PySem.call f vs) := by
  refine Att.attach_call hn hdf ?_
  intro w s0 s1 mg mb fa o pm cd doc a vs ns G Y _ _ _ hmg hobj hints hlen hg
  have KX := hY w _ Y
  exact end_call KX G.T.g G.T.b G.T.builtins G.T.nolimit hg hobj hints (Nat.le_trans hlen hn2) hr (F w mg fa _ KX G.T.g hmg) fun H hO hS => hsp _ H a ns hlen hO hS
end Sq
namespace Sq
open PySem L2 PySem.Spec PyProof.Rows
section
variable {prog : Program} {w : World}
theorem meets_boolO (a : Addr) : MeetsIn prog w (Builtin.«bool.__new__» ⟨[.type "bool", .ref a], []⟩)
    (fun A R s => wpAny (model prog w) A.in1 (truthy (.ref a)) (fun b s1 => R (.ok (.ret (.bool b))) s1) (fun e s1 => R (.error e) s1) s) :=
  MeetsIn.of_wp fun A R s h => by
    have f1 := F.conv_sub_bool
    unfold Builtin.«bool.__new__»
    repeat (any_goals (first | assumption | (with_reducible refine wpAny_bind (wpAny_mono h (fun b s1 hb => ?_) fun _ _ z => z)) | wp_step))
    all_goals exact ⟨_, rfl, hb⟩
end
theorem rel1 (a : Addr) : Vals [V.ref a] [Value.ref a] := .cons rfl .nil
theorem rel2 (a b : Addr) : Vals [V.ref a, V.ref b] [Value.ref a, Value.ref b] := .cons rfl (.cons rfl .nil)
section
variable {X : Cx} {k : Nat} {f C : Addr} {sp : Sp}
/-- a def of the text run below the body -/
theorem run_below {A : Around} {pins : List (Addr × Obj)} {σ : L2.St} {H : Hp} {s : Shared} {Q : VK} {us : List Value} {vs : List V} {E : Value → Shared → Prop} (F : FnR X.prog X.w X.K X.mg X.base CX0 k f sp)
    (hr : Room k A) (fr : A.frames = X.A.frames) (I : Inv X pins σ H s) (r : Vals vs us) (h : sp vs H Q E0) :
    wpAny (model X.prog X.w) A (call (.ref f) us) (EP X pins σ Q) E s := by
  have e := I.env0
  have e1 : Env0 X.prog X.w X.K X.mg X.base A X.stack s H := { frames := fr.trans e.frames, mod := e.mod, bs := e.bs, bsz := e.bsz, funs := e.funs, frf := e.frf, hok := e.hok, bare := e.bare }
  refine wpAny_call (codeAny_mono (F A X.stack s H us vs Q E0 hr e1 r h) fun z s' hz => ?_)
  match z, hz with
  | .error _, hz => exact False.elim hz
  | .ok (.ret _), hz => exact I.after hz
  | .ok .next, hz => exact False.elim hz
  | .ok .brk, hz => exact False.elim hz
  | .ok .cont, hz => exact False.elim hz
/-- bool(o), o an instance of a class of the text that has a __bool__ -/
theorem call_boolO (hs : PySem.W.findIn X.K (.ref C) "__bool__" = some (some (.ref f))) (hf : PySem.W.isFn X.K (.ref f) = true) (F : FnR X.prog X.w X.K X.mg X.base CX0 k f sp) (hr : Room (k + 2) X.A) :
    CallR X (.type "bool") (fun xs H Q => ∃ a dx fs, xs = [.ref a] ∧ H a = some (.ins C dx fs) ∧ sp [.ref a] H (fun v H' => ∃ b, v = .bl b ∧ Q (.bl b) H') E0) := by
  intro pins s σ H xs us Q I r h
  obtain ⟨a, dx, fs, rfl, ha, q⟩ := h
  obtain ⟨u, rfl, r1⟩ := vals1 r
  cases r1
  obtain ⟨mA, J, _⟩ := ins_get I.hok ha
  obtain ⟨od, J, _⟩ := J.look
  obtain ⟨m, hF⟩ := I.fr
  refine callType_newIn PySem.F.called_bool PySem.F.newNe_bool (PySem.F.typeCall_bool_1 _) (PySem.F.newCall_bool_1 _) (fun obj => PySem.F.args_object_init_2 obj _) PySem.F.entry_bool_new (meets_boolO a) ?_
  show wpAny (model X.prog X.w) X.A.in1.in1 (truthy (.ref a)) _ _ s
  refine PySem.W.truthy_K hF I.ok.mod.kin J hs hf ?_
  refine wpAny_mono (run_below F hr.in1.in1 rfl I (rel1 a) q) (fun v s' hv => ?_) fun _ _ z => z
  obtain ⟨y, H', I', ry, b, ey, q'⟩ := hv
  subst ey
  cases ry
  exact ⟨PySem.typeIs_bool _ _, ⟨.bl b, H', I', rfl, q'⟩⟩

def rOwn2 (C : Addr) (sp : Sp) (g : Bool → Bool) : R2 := fun x y H Q => ∃ a b dx dy fs gs, x = .ref a ∧ y = .ref b ∧ H a = some (.ins C dx fs) ∧ H b = some (.ins C dy gs) ∧
  sp [.ref a, .ref b] H (fun v H' => ∃ r, v = .bl r ∧ Q (.bl (g r)) H') E0
/-- a == b, both instances of a class of the text with an __eq__ -/
theorem op_eqO (hs : PySem.W.findIn X.K (.ref C) "__eq__" = some (some (.ref f))) (hf : PySem.W.isFn X.K (.ref f) = true) (F : FnR X.prog X.w X.K X.mg X.base CX0 k f sp) (hr : Room k X.A) :
    OpR X (compareOp .Eq) (rOwn2 C sp id) := by
  intro pins s σ H x y v u Q I rx ry h
  obtain ⟨a, b, dx, dy, fs, gs, rfl, rfl, ha, hb, q⟩ := h
  cases rx
  cases ry
  obtain ⟨mA, J, _⟩ := ins_get I.hok ha
  obtain ⟨mB, J', _⟩ := ins_get I.hok hb
  obtain ⟨od, J, _⟩ := J.look
  obtain ⟨od', J', _⟩ := J'.look
  obtain ⟨m, hF⟩ := I.fr
  show wpAny (model X.prog X.w) X.A (richCompare .Eq (.ref a) (.ref b)) _ _ s
  refine PySem.W.cmp_K (op := .Eq) (tb := .ref C) hr.units0 hF I.ok.mod.kin J J'.type (by simp [PySem.W.notFirst]) hs hf ?_
  refine wpAny_mono (run_below F hr rfl I (rel2 a b) q) (fun v s' hv => ?_) fun _ _ z => z
  obtain ⟨y, H', I', ry, r, ey, q'⟩ := hv
  subst ey
  cases ry
  exact ⟨.bl r, H', I', rfl, q'⟩
end
section
variable {M : Model} {A : Around} {E : Value → Shared → Prop} {s : Shared} {K : PySem.W.Frag} {x C : Addr} {ox : Obj} {od : Option Obj}
/-- a method of object's own that a class of the text inherits -/
theorem ifBound_obj {name : Str} {id : String} {args : List Value} {Q : Option Value → Shared → Prop} (S : Slot "object" name id) (X : K.In s.heap) (I : PySem.W.InstAt s.heap x ox C od)
    (hs : PySem.W.findIn K (.ref C) name = some (some (.builtin id))) (h : wpAny M A (call (.builtin id) (.ref x :: args)) (fun v => Q (some v)) E s) :
    wpAny M A (callSpecialIfBound? (.ref x) name args) Q E s := by
  simp only [callSpecialIfBound?, bindSpecialIfBound?]
  refine wpAny_holding (wpAny_bind (wpAny_bind (wpAny_bind (I.type.here ((PySem.W.looks_findIn X hs).here ?_)))))
  simp only [S.bind]
  refine wpAny_bind (wpAny_askSetting (wpAny_ite ?_))
  have go : wpAny M A (call (.builtin id) ([.ref x] ++ args) >>= fun v => pure (some v)) Q E s := wpAny_bind (wpAny_mono h (fun _ _ q => wpAny_pure q) fun _ _ q => q)
  split
  · exact wpAny_bind (wpAny_pure (wpAny_pure go))
  · exact wpAny_tryCatch (wpAny_bind (wpAny_pure (wpAny_pure go)))
end
section
variable {prog : Program} {w : World} {A : Around} {E : Value → Shared → Prop} {s : Shared} {K : PySem.W.Frag} {x C : Addr} {ox : Obj} {od : Option Obj}
theorem checked_ne {y : Value} {Q : Unit → Shared → Prop} (X : K.In s.heap) (I : PySem.W.InstAt s.heap x ox C od) (ho : PySem.W.subIn K (.ref C) (.type "object") = some true) (h : Q () s) :
    wpAny (model prog w) A (checkBuiltinCall "object.__ne__" ⟨[.ref x, y], []⟩) Q E s := by
  simp only [checkBuiltinCall, F.cmpKind_ne, F.cmpSplit_ne]
  unfold isInstance
  refine wpAny_bind (wpAny_bind (I.type.here ((PySem.W.looks_subIn X ho).here ?_)))
  have z := F.cmpArgs_ne (.ref x) y
  cases hsig : Manifest.signature? "object.__ne__" with
  | none => exact wpAny_pure h
  | some sig =>
    simp only [argsOk, hsig] at z
    have z2 : Bind.checkArgs "object.__ne__" sig ⟨[.ref x, y], []⟩ = pure () := z
    show wpAny _ A (Bind.checkArgs "object.__ne__" sig ⟨[.ref x, y], []⟩) Q E s
    rw [z2]
    exact wpAny_pure h
theorem ne_entry {f : Addr} {y : Value} {Q : PySem.Fin → Shared → Prop} (hu : A.units < cLine) (X : K.In s.heap) (I : PySem.W.InstAt s.heap x ox C od) (hs : PySem.W.findIn K (.ref C) "__eq__" = some (some (.ref f)))
    (hf : PySem.W.isFn K (.ref f) = true) (h : wpAny (model prog w) A (call (.ref f) [.ref x, y]) (fun v s' => ∃ b, v = .bool b ∧ Q (.done (.ret (.bool (!b)))) s') E s) :
    wpAny (model prog w) A (Builtin.«object.__ne__» ⟨[.ref x, y], []⟩) Q E s := by
  unfold Builtin.«object.__ne__»
  repeat (first
    | with_reducible refine wpAny_cRoomFor hu ?_
    | (refine wpAny_bind (m := callSpecialIfBound? (.ref x) (Str.ofString "__eq__") [y])
        (PySem.W.ifBound_K X I hs hf (wpAny_mono h (fun r s' hr => by
          obtain ⟨b, rfl, hq⟩ := hr
          repeat (first | exact hq | exact wpAny_pure hq | (refine wpAny_bind (m := truthy (.bool _)) (wpAny_truthy_bool ?_)) | wp_step)) fun _ _ e => e)))
    | wp_step)
theorem rich_ne {f b : Addr} {Q : Value → Shared → Prop} (hu : A.units + 1 < cLine) (X : K.In s.heap) (I : PySem.W.InstAt s.heap x ox C od) (hb : PySem.W.Looks (model prog w) s.heap (typeOf (.ref b)) (.ref C))
    (hn : PySem.W.findIn K (.ref C) "__ne__" = some (some (.builtin "object.__ne__"))) (ho : PySem.W.subIn K (.ref C) (.type "object") = some true)
    (hs : PySem.W.findIn K (.ref C) "__eq__" = some (some (.ref f))) (hf : PySem.W.isFn K (.ref f) = true)
    (h : wpAny (model prog w) A.in1 (call (.ref f) [.ref x, .ref b]) (fun v s' => ∃ r, v = .bool r ∧ Q (.bool (!r)) s') E s) :
    wpAny (model prog w) A (richCompare .NotEq (.ref x) (.ref b)) Q E s := by
  have one : wpAny (model prog w) A (tryCompare (.ref x) "__ne__" (.ref b)) (fun r s' => ∃ z, r = some (.bool z) ∧ Q (.bool z) s') E s := by
    unfold tryCompare
    refine wpAny_bind (ifBound_obj F.cmp_object.ne X I hn (wpAny_call (codeAny_call_builtin F.cmp_object.ne.plain F.cmpEntry_ne (checked_ne X I ho (ne_entry (A := A.in1) hu X I hs hf (wpAny_mono h (fun v s' hv => ?_) fun _ _ z => z))))))
    obtain ⟨r, rfl, q⟩ := hv
    exact ⟨r, rfl, wpAny_pure ⟨_, rfl, q⟩⟩
  unfold richCompare
  simp only [PySem.oneThing_ref]
  refine wpAny_holding (wpAny_bind (wpAny_cRoomFor (Nat.lt_of_succ_lt hu) ?_))
  rw [cmpInfo_NotEq]
  dsimp only
  refine wpAny_bind (I.type.here (wpAny_bind (hb.here ?_)))
  rw [show (Value.ref C != Value.ref C) = false from by simp]
  simp only [Bool.false_eq_true, if_false]
  refine wpAny_bind (wpAny_pure ?_)
  simp only [Bool.false_eq_true, if_false]
  refine wpAny_bind (wpAny_mono one (fun r s' hz => ?_) fun _ _ z => z)
  obtain ⟨z, rfl, q⟩ := hz
  exact wpAny_pure q
end
section
variable {X : Cx} {k : Nat} {f C : Addr} {sp : Sp}
/-- a != b, by the text's __eq__ alone -/
theorem op_neO (hn : PySem.W.findIn X.K (.ref C) "__ne__" = some (some (.builtin "object.__ne__"))) (ho : PySem.W.subIn X.K (.ref C) (.type "object") = some true)
    (hs : PySem.W.findIn X.K (.ref C) "__eq__" = some (some (.ref f))) (hf : PySem.W.isFn X.K (.ref f) = true) (F : FnR X.prog X.w X.K X.mg X.base CX0 k f sp) (hr : Room (k + 1) X.A) :
    OpR X (compareOp .NotEq) (rOwn2 C sp (!·)) := by
  intro pins s σ H x y v u Q I rx ry h
  obtain ⟨a, b, dx, dy, fs, gs, rfl, rfl, ha, hb, q⟩ := h
  cases rx
  cases ry
  obtain ⟨mA, J, _⟩ := ins_get I.hok ha
  obtain ⟨mB, J', _⟩ := ins_get I.hok hb
  obtain ⟨od, J, _⟩ := J.look
  obtain ⟨od', J', _⟩ := J'.look
  show wpAny (model X.prog X.w) X.A (richCompare .NotEq (.ref a) (.ref b)) _ _ s
  refine rich_ne (hu_of hr) I.kIn J J'.type hn ho hs hf ?_
  refine wpAny_mono (run_below F hr.in1 rfl I (rel2 a b) q) (fun v s' hv => ?_) fun _ _ z => z
  obtain ⟨y, H', I', ry, r, ey, q'⟩ := hv
  subst ey
  cases ry
  exact ⟨r, rfl, .bl (!r), H', I', rfl, q'⟩
end
end Sq
namespace Sq
open PySem L2 PySem.Spec PyProof.Rows
/-- __init__ at an instance and two keywords -/
def FnK2 (P : Program) (w : World) (K : PySem.W.Frag) (mg : Str → Option Value) (base : Heap) (k : Nat) (f : Addr) (n1 n2 : Str) (sp : Sp) : Prop :=
  ∀ (A : Around) (fr : List Env) (s : Shared) (H : Hp) (x : Addr) (u1 u2 : Value) (v1 v2 : V) (Q : VK), Room k A → Env0 P w K mg base A fr s H → RelV v1 u1 → RelV v2 u2 →
    sp [.ref x, v1, v2] H Q E0 → codeAny (model P w) A (.call (.ref f) ⟨[.ref x], [(n1, u1), (n2, u2)]⟩) (CR CX0 fr P w H s Q E0) s
section
variable {P : Program} {w : World} {K : PySem.W.Frag} {mg : Str → Option Value} {base : Heap} {k : Nat} {f : Addr} {name qual : Str} {params : Arguments} {body : List Stmt} {scope : Scope} {dV kV doc pm cdv ct oc : Value} {an od : Option Addr}
  {osl : Array (Option Value)} {N : List Str} {sp : Sp} {n0 n1 n2 nv : Str}
/-- def f(self, b, a, *v) called as f(x, a = .., b = ..): the star parameter is an empty tuple -/
theorem fn_starK2 (lk : K.lookup f = some ⟨oc, od, .func (PySem.W.fnOf name qual params body scope dV kV doc pm an cdv ct), osl⟩) (hcd : PySem.W.codeIn K cdv qual = true) (S : FnScope N [n0, n2, n1, nv] scope)
    (hb : ∀ x u1 u2 : Value, bindArgs (PySem.W.fnOf name qual params body scope dV kV doc pm an cdv ct) ⟨[x], [(n1, u1), (n2, u2)]⟩ = (newTuple [] >>= fun t => pure [(n0, x), (n2, u2), (n1, u1), (nv, t)]))
    (hbody : ∀ (A : Around) (outer : List Env) (s : Shared) (H : Hp) (vs : List V) (Q : VK) (E : XK), Room k (A.deeper (envOfC qual scope s.heap.objs.size f cdv)) → sp vs H Q E →
      ∃ t, PSs (cxOf CX0 P w K mg base N qual scope f cdv A outer s H E) body t ∧ t { nx := fun _ H' => Q .non H', rt := Q } (L2.start N vs) H) :
    FnK2 P w K mg base (k + 1) f n1 n2 (fun vs H Q E => ∃ x v1 v2, vs = [x, v1, v2] ∧ ∀ p, H p = none → sp [x, v2, v1, .ref p] (upd H p (.tup [])) Q E) := by
  intro A fr s H x u1 u2 v1 v2 Q hr e0 r1 r2 h
  obtain ⟨x', v1', v2', ev, hq⟩ := h
  cases ev
  have hn : H s.heap.objs.size = none := e0.hok.fresh (Nat.le_refl _)
  refine StX.run_bnd lk hcd S hr e0 (G := fun xs H2 => ∃ p, H p = none ∧ xs = [.ref x, v2, v1, .ref p] ∧ H2 = upd H p (.tup [])) (fun A' Ex Q' hz => ?_) fun s2 H2 xs hx hr' => ?_
  · rw [hb (.ref x) u1 u2]
    refine wpAny_bind (wpAny_newTuple (wpAny_pure ?_) (Nat.zero_le _))
    have new : ObjOk P w (upd H s.heap.objs.size (.tup [])) (s.heap.push ({ cls := .type "tuple", data := .seq (([] : List Value)).toArray } : Obj)) s.heap.objs.size (.tup []) := ⟨Nat.zero_le _, [], .nil, ⟨_, Heap.get?_push_size _ rfl, rfl, _, rfl⟩⟩
    exact hz _ _ [.ref x, v2, v1, .ref s.heap.objs.size] [.ref x, u2, u1, .ref s.heap.objs.size] (StX.env0_laid e0 new) (StX.un_laid hn) rfl (fun _ _ z => z) (.cons rfl (.cons r2 (.cons r1 (.cons rfl .nil)))) rfl ⟨_, hn, rfl, rfl⟩
  · obtain ⟨p, hp, rfl, rfl⟩ := hx
    exact hbody A fr s2 _ _ Q E0 hr' (hq p hp)
end
section
variable {X : Cx} {k : Nat} {f C : Addr} {sp : Sp} {x n1 n2 : Str} {p pos : Pos} {kws : List Keyword} {tk : TA}
def tMakeK2 (C : Addr) (sp : Sp) (tk : TA) : TE := fun σ H Q => tk σ H fun zs H2 => ∃ v1 v2, zs = [v1, v2] ∧ ∀ x dx, H2 x = none → H2 dx = none → dx ≠ x →
  sp [.ref x, v1, v2] (upd (upd H2 dx (.own x)) x (.ins C dx [])) (fun v H3 => v = .non ∧ Q (.ref x) H3) E0
/-- C(a = .., b = ..) -/
theorem pe_makeK2 (M : Mk X.K C f) (F : FnK2 X.prog X.w X.K X.mg X.base k f n1 n2 sp) (hr : Room (k + 1) X.A) (hg : Gl X x) (hm : X.mg x = some (.ref C)) (hkw : PK X kws tk)
    (hall : (backToKw pos (keywordEach kws X.env)).all (·.1.isSome) = true := by rfl) (hks : (backToKw pos (keywordEach kws X.env)).filterMap (·.1) = [n1, n2] := by rfl) (hdb : (x == ("__debug__" : Str)) = false := by decide)
    (hpl : ((backTo pos (starEach [] X.env)).any (·.1) || (backToKw pos (keywordEach kws X.env)).any (·.1.isNone)) = false := by rfl) :
    PE X (.Call (.Name x p) [] kws pos) (tMakeK2 C sp tk) := by
  constructor
  intro pins s σ H Q I h
  refine wpAny_Call_Name_kw (ld_glob I hg hm (PySem.W.callWith_KW0 (h₀ := X.base) I.ok.mod.kin M.kp hall ?_ hpl) hdb)
  refine thn (hkw.run pos pins s σ H _ I h) ?_
  rintro ws s2 ⟨zs, H2, I2, rz, v1, v2, ez, q⟩
  subst ez
  refine ⟨I2.kIn, ?_⟩
  rw [hks]
  obtain ⟨u1, u2, rfl, r1, r2⟩ : ∃ u1 u2, ws = [u1, u2] ∧ RelV v1 u1 ∧ RelV v2 u2 := by
    cases rz with
    | cons a b =>
      cases b with
      | cons c d =>
        cases d
        exact ⟨_, _, rfl, a, c⟩
  have hq := q (s2.heap.objs.size + 1) s2.heap.objs.size (I2.hok.fresh (Nat.le_succ _)) (I2.hok.fresh (Nat.le_refl _)) (Nat.ne_of_lt (Nat.lt_succ_self _))
  have I3 := Inv.made (C := C) I2
  have run := F _ X.stack _ _ (s2.heap.objs.size + 1) u1 u2 v1 v2 _ (hr.make C [] [(n1, u1), (n2, u2)]) (I3.env0.make C [] [(n1, u1), (n2, u2)]) r1 r2 hq
  refine wpAny_call (make_map (f := f) I2.kIn M.makes M.init (beq_iff_eq.mp M.fn) (codeAny_mono run fun z s' hz => ?_))
  match z, hz with
  | .error _, hz => exact False.elim hz
  | .ok .next, hz => exact False.elim hz
  | .ok .brk, hz => exact False.elim hz
  | .ok .cont, hz => exact False.elim hz
  | .ok (.ret u), hz =>
    obtain ⟨v, H', I4, rv, ev, q3⟩ := I3.after hz
    subst ev
    exact ⟨rv, ⟨.ref (s2.heap.objs.size + 1), H', I4, rfl, q3⟩⟩
end
end Sq
namespace Sq
open PySem L2
def top (i : Nat) : Stmt := PySem.Challenge.pw_squareloops_k02_loops_of_nests.main.body.getD i (.Pass ⟨0, 0, 0, 0⟩)
abbrev sNumber : Stmt := top 24
abbrev sBag : Stmt := top 25
abbrev sTake : Stmt := top 26

/-- the built-ins that the text calls are still so -/
structure Bt (mg : Str → Option Value) : Prop where
  len : mg "len" = none
  int : mg "int" = none
  abs : mg "abs" = none
  divmod : mg "divmod" = none
  range : mg "range" = none

def spNumber (K : PySem.W.Frag) : Sp := fun vs H Q _ => ∃ (a : Addr) (ns : List Int) (k : Nat), vs = [.ref a, .int (k : Int)] ∧ SqL K H a (ns.map V.int) ∧ ns.length ≤ 63 ∧ k ≤ 63 ∧ ∀ n H', Same H H' → Q (.int n) H'
section
variable {P : Program} {w : World} {K : PySem.W.Frag} {mg : Str → Option Value} {base : Heap}
theorem scNumber : FnScope ["_law_script", "_law_k", "_law_mixed", "_law_cell"] ["_law_script", "_law_k"] (defScope sNumber) := ⟨rfl, rfl, rfl, by decide +kernel, rfl, by decide +kernel, by decide +kernel⟩
theorem ok_number {f : Addr} {fd : FuncData} (F : Fun K "_law_number" "_law_number" sNumber f fd) (T : Bt mg) : FnOk P w K mg base CX0 1 f fd ["_law_script", "_law_k"] (spNumber K) := by
  refine F.ok scNumber (fun vs H Q E h => ?_) (fun cdv A outer s H vs Q E hr h => ?_)
  · obtain ⟨a, ns, k, rfl, _⟩ := h
    rfl
  · obtain ⟨a, ns, k, rfl, hS, hl, k1, q⟩ := h
    refine ⟨_, pss_cons (ps_if (pt_cmpR op_lt (pv 1) (pe_callB call_len_seq (by rfl) T.len PySem.boot_len (pa_cons (pv 0) pa_nil)) (nomark _))
        (pss_one (ps_ret (pe_callTy call_int1 (by rfl) T.int (by decide +kernel) (pa_cons (pe_ix ix_list (pv 0) (pv 1) (fun _ _ => rfl)) pa_nil)))) pss_nil)
      (pss_cons (ps_set (i := 2) scNumber.nd rfl (.inl rfl) (pe_op op_add pe_int (pe_op op_mul (pe_op op_mul pe_int (pv 1)) (pv 1))))
      (pss_cons (ps_for PassesOwn.never rfl (pi_list (pe_slice sl_list (pv 0) po_none (po_some pe_int))) (pg_name (i := 3) scNumber.nd rfl (.inl rfl))
        (pss_one (ps_set (i := 2) scNumber.nd rfl (.inl rfl) (pe_op op_mod (pe_callTy call_int1 (by rfl) T.int (by decide +kernel) (pa_cons (pe_op op_add (pe_op op_add (pe_op op_mul (pv 2) pe_int) (pv 3)) pe_int) pa_nil)) pe_int))))
      (pss_one (ps_ret (pv 2))))), ?_⟩
    refine ⟨_, rfl, _, rfl, a, _, rfl, .inl hS, _, _, rfl, rfl, _, rfl, ?_⟩
    rw [List.length_map]
    refine ite2 (fun hk => ?_) (fun hk => ?_)
    · have hlt : k < ns.length := Int.ofNat_lt.mp (of_decide_eq_true hk)
      refine ⟨_, rfl, _, rfl, a, _, _, _, rfl, rfl, hS, atI_nat (by rw [List.getElem?_map, List.getElem?_eq_getElem hlt]; rfl), .inl ⟨_, rfl, ?_⟩⟩
      exact q _ _ (Same.refl _)
    · refine ⟨_, rfl, _, _, rfl, rfl, .inl ⟨by decide, by decide⟩, _, rfl, _, _, rfl, rfl, .inr ⟨by omega, by omega⟩, _, _, rfl, rfl, ?_⟩
      refine ⟨_, rfl, _, rfl, a, _, rfl, hS, fun p np => ?_⟩
      refine ⟨p, rfl, ⟨_, SqL.of upd_same⟩, ?_⟩
      have s0 : Same H (upd H p (.lst (cutV (ns.map V.int) none (some 5)))) := fun b o e => by
        rw [upd_ne (ne_of_none e np)]
        exact e
      have allI : ∀ x ∈ cutV (ns.map V.int) none (some 5), ∃ i, x = V.int i := fun x hx => by
        unfold cutV at hx
        have h1 := List.mem_of_mem_drop (List.mem_of_mem_take hx)
        obtain ⟨i, _, e⟩ := List.mem_map.mp h1
        exact ⟨i, e.symm⟩
      refine for_list (K := K) (a := p) (xs := cutV (ns.map V.int) none (some 5)) (fun _ σ H' => ∃ m v, σ = [some (.ref a), some (.int (k : Int)), some (.int m), v] ∧ H' = upd H p (.lst (cutV (ns.map V.int) none (some 5))))
        ⟨_, _, rfl, rfl⟩ (fun i σ H' _ h => ?_) (fun i x σ H' hx h => ?_) (fun σ H' h => ?_)
      · obtain ⟨m, v, _, rfl⟩ := h
        exact SqL.of upd_same
      · obtain ⟨m, v, rfl, rfl⟩ := h
        obtain ⟨z, rfl⟩ := allI x (List.mem_of_getElem? hx)
        refine ⟨_, rfl, _, _, rfl, rfl, .inr ⟨by decide, by decide⟩, _, rfl, _, _, rfl, rfl, _, _, rfl, rfl, .inl ⟨_, rfl, _, _, rfl, rfl, (by show (0 : Int) < 2147483629; decide), ?_⟩⟩
        exact ⟨_, _, rfl, rfl⟩
      · obtain ⟨m, v, rfl, rfl⟩ := h
        exact ⟨_, rfl, q m _ s0⟩

theorem scBag : FnScope ["_law_number_here", "_law_mixed"] ["_law_number_here"] (defScope sBag) := ⟨rfl, rfl, rfl, by decide +kernel, rfl, by decide +kernel, by decide +kernel⟩
def spBag : Sp := fun vs H Q _ => ∃ n : Int, vs = [.int n] ∧ ∀ (p : Addr) (m d : Int), H p = none → Q (.ref p) (upd H p (.lst [.int m, .int d, .int 0]))
theorem ok_bag {f : Addr} {fd : FuncData} (F : Fun K "_law_bag" "_law_bag" sBag f fd) (T : Bt mg) : FnOk P w K mg base CX0 1 f fd ["_law_number_here"] spBag := by
  refine F.ok scBag (fun vs H Q E h => ?_) (fun cdv A outer s H vs Q E hr h => ?_)
  · obtain ⟨n, rfl, _⟩ := h
    rfl
  · obtain ⟨n, rfl, q⟩ := h
    refine ⟨_, pss_cons (ps_set (i := 1) scBag.nd rfl (.inl rfl) (pe_op op_mod (pe_callTy call_int1 (by rfl) T.int (by decide +kernel) (pa_cons (pe_op op_add (pe_op op_mul (pe_callB call_abs (by rfl) T.abs (by decide +kernel) (pa_cons (pv 0) pa_nil)) pe_int) pe_int) pa_nil)) pe_int))
      (pss_one (ps_ret (pe_lst (pa_cons (pv 1) (pa_cons (pe_ifExp (PW.pt (pw_or (pt_cmpR op_lt (pv 0) pe_int (nomark _)) (pw_or1 (pt_cmpR op_ge (pv 0) (pe_op op_pow pe_int pe_int) (nomark _)))))
        (pe_callB call_abs (by rfl) T.abs (by decide +kernel) (pa_cons (pv 0) pa_nil)) pe_int) (pa_cons pe_int pa_nil)))))), ?_⟩
    refine ⟨_, rfl, _, rfl, _, _, rfl, rfl, .inr ⟨by decide, by decide⟩, _, _, rfl, rfl, .inl ⟨_, rfl, _, _, rfl, rfl, (by show (0 : Int) < 2147483629; decide), ?_⟩⟩
    refine ⟨_, rfl, _, rfl, _, _, rfl, rfl, _, rfl, ?_⟩
    have fin : ∀ m d : Int, tLst (fun _ H Q => Q [.int m, .int d, .int 0] H) (L2.start [] []) H Q := fun m d => ⟨by show 3 ≤ sizeLine; decide, fun p np => q p m d np⟩
    refine ite2 (fun hk => ?_) (fun hk => ?_)
    · exact ⟨_, rfl, _, rfl, fin _ _⟩
    · refine ⟨_, rfl, _, _, rfl, rfl, ⟨by decide, by decide, by decide⟩, _, _, rfl, rfl, _, rfl, ?_⟩
      refine ite2 (fun hj => ?_) (fun hj => ?_)
      · exact ⟨_, rfl, _, rfl, fin _ _⟩
      · exact fin _ _
theorem scTake : FnScope ["_law_bag_here", "_law_many", "_law_mixed", "_law_digit"] ["_law_bag_here", "_law_many"] (defScope sTake) := ⟨rfl, rfl, rfl, by decide +kernel, rfl, by decide +kernel, by decide +kernel⟩
/-- all but what stands at p is as it was -/
def Off (p : Addr) (H H' : Hp) : Prop := ∀ b o, b ≠ p → H b = some o → H' b = some o
def spTake : Sp := fun vs H Q _ => ∃ (p : Addr) (m d c k : Int), vs = [.ref p, .int k] ∧ H p = some (.lst [.int m, .int d, .int c]) ∧ 0 < k ∧ k < 1000000 ∧
  ∀ (r m' d' c' : Int) (H' : Hp), 0 ≤ r → r < k → H' p = some (.lst [.int m', .int d', .int c']) → Off p H H' → Q (.int r) H'
theorem ok_take {f : Addr} {fd : FuncData} (F : Fun K "_law_take" "_law_take" sTake f fd) (T : Bt mg) : FnOk P w K mg base CX0 1 f fd ["_law_bag_here", "_law_many"] spTake := by
  refine F.ok scTake (fun vs H Q E h => ?_) (fun cdv A outer s H vs Q E hr h => ?_)
  · obtain ⟨p, m, d, c, k, rfl, _⟩ := h
    rfl
  · obtain ⟨p, m, d, c, k, rfl, hp, k0, k1, q⟩ := h
    refine ⟨_, pss_cons (ps_asg (pe_op op_add (pe_ix ix_list (pv 0) pe_int (fun _ _ => rfl)) pe_int) (pg_sub (pv 0) pe_int set_list))
      (pss_cons (ps_set (i := 2) scTake.nd rfl (.inl rfl) (pe_callTy call_int1 (by rfl) T.int (by decide +kernel) (pa_cons (pe_ix ix_list (pv 0) pe_int (fun _ _ => rfl)) pa_nil)))
      (pss_cons (ps_asg (pe_op op_mod (pe_callTy call_int1 (by rfl) T.int (by decide +kernel) (pa_cons (pe_op op_add (pe_op op_add (pe_op op_mul (pv 2) (pe_op op_add (pe_op op_mod (pe_callTy call_int1 (by rfl) T.int (by decide +kernel) (pa_cons (pv 2) pa_nil)) pe_int) pe_int))
          (pe_op op_mul pe_int (pe_ix ix_list (pv 0) pe_int (fun _ _ => rfl)))) pe_int) pa_nil)) pe_int) (pg_sub (pv 0) pe_int set_list))
      (pss_cons (ps_if (pt_cmpR op_gt (pe_ix ix_list (pv 0) pe_int (fun _ _ => rfl)) pe_int (nomark _))
        (pss_cons (ps_asg (pe_callB call_divmod (by rfl) T.divmod (by decide +kernel) (pa_cons (pe_ix ix_list (pv 0) pe_int (fun _ _ => rfl)) (pa_cons (pv 1) pa_nil)))
            (pg_tup (by rfl) (pgs_cons (pg_sub (pv 0) pe_int set_list) (pgs_cons (pg_name (i := 3) scTake.nd rfl (.inl rfl)) pgs_nil))))
          (pss_one (ps_ret (pv 3)))) pss_nil)
      (pss_one (ps_ret (pe_op op_mod (pe_callTy call_int1 (by rfl) T.int (by decide +kernel) (pa_cons (pe_op op_fdiv (pe_ix ix_list (pv 0) pe_int (fun _ _ => rfl)) pe_int) pa_nil)) (pv 1))))))), ?_⟩
    -- the count
    refine ⟨_, rfl, p, _, 2, _, rfl, rfl, SqL.of hp, rfl, _, _, rfl, rfl, _, rfl, p, _, 2, 2, rfl, rfl, hp, rfl, ?_⟩
    -- the mixed number
    refine ⟨_, rfl, p, _, 0, _, rfl, rfl, SqL.of upd_same, rfl, .inl ⟨_, rfl, ?_⟩⟩
    refine ⟨_, rfl, _, rfl, .inl ⟨_, rfl, _, _, rfl, rfl, (by show (0 : Int) < 30011; decide), _, _, rfl, rfl, _, _, rfl, rfl, .inr ⟨?_, ?_⟩, ?_⟩⟩
    · have := Int.emod_nonneg m (show (30011 : Int) ≠ 0 by decide)
      omega
    · have := Int.emod_lt_of_pos m (show (0 : Int) < 30011 by decide)
      omega
    refine ⟨_, rfl, p, _, 2, _, rfl, rfl, SqL.of upd_same, rfl, _, _, rfl, rfl, .inl ⟨by decide, by decide⟩, _, _, rfl, rfl, _, _, rfl, rfl, .inl ⟨_, rfl, _, _, rfl, rfl, (by show (0 : Int) < 2147483629; decide), ?_⟩⟩
    refine ⟨_, rfl, p, _, 0, 0, rfl, rfl, upd_same, rfl, ?_⟩
    refine ⟨_, rfl, p, _, 1, _, rfl, rfl, SqL.of upd_same, rfl, _, _, rfl, rfl, _, rfl, ?_⟩
    have off : ∀ o1 o2, Off p H (upd (upd H p o1) p o2) := fun o1 o2 b o hb e => by
      rw [upd_ne hb, upd_ne hb]
      exact e
    refine ite2 (fun hd => ?_) (fun hd => ?_)
    · refine ⟨_, rfl, p, _, 1, _, rfl, rfl, SqL.of upd_same, rfl, _, rfl, d, k, rfl, ⟨k0, by omega⟩, fun t nt => ?_⟩
      have ntp : p ≠ t := fun e => by
        rw [← e, upd_same] at nt
        cases nt
      refine ⟨t, _, rfl, SqT.of upd_same, rfl, _, _, rfl, _, rfl, p, _, 1, 1, rfl, rfl, (by rw [upd_ne ntp]; exact upd_same), rfl, _, _, rfl, rfl, _, rfl, ?_⟩
      refine q _ _ _ _ _ (Int.emod_nonneg _ (by omega)) (Int.emod_lt_of_pos _ k0) upd_same fun b o hb e => ?_
      have nbt : b ≠ t := fun z => by
        rw [← z, upd_ne hb, upd_ne hb, e] at nt
        cases nt
      rw [upd_ne hb, upd_ne nbt]
      exact off _ _ b o hb e
    · refine ⟨_, rfl, p, _, 0, _, rfl, rfl, SqL.of upd_same, rfl, _, _, rfl, rfl, ⟨by decide, by decide⟩, .inl ⟨_, rfl, _, rfl, _, _, rfl, rfl, k0, ?_⟩⟩
      exact q _ _ _ _ _ (Int.emod_nonneg _ (by omega)) (Int.emod_lt_of_pos _ k0) upd_same (off _ _)
end
end Sq
namespace Sq
open PySem L2 TL
abbrev sLoop : Stmt := top 11
abbrev sOuterL : Stmt := top 9
abbrev sInnerL : Stmt := top 10
def obs : List Str := ["-1", "0", "1", "n-1", "n", "n+1", "n//2-1", "n//2", "n//2+1", "(n+1)//2-1", "(n+1)//2", "(n+1)//2+1"]
def ibs : List Str := ["i-1", "i", "i+1", "n-i-1", "n-i", "n-i+1"]
def memB (bs : List Str) (a : Str) : Bool := bs.any fun b => b == a
theorem inV_str (a : Str) (bs : List Str) : inV (.str a) (bs.map V.str) = memB bs a := by
  unfold inV memB
  rw [List.any_map]
  rfl
theorem flat_strs (bs : List Str) : (bs.map V.str).all flatV = true := by
  rw [List.all_map, List.all_eq_true]
  intro x _
  rfl
def cutDown (ws : List Str) : List Str := if ws.getLast? = some ("down" : Str) then ws.dropLast else ws
def loopW (bs ws : List Str) : Bool := match ws with
  | [a, b, c] => memB bs a && (decide (b = "to") && memB bs c)
  | _ => false
def loopB (bs : List Str) (z : Str) : Bool := loopW bs (cutDown (Txt.split z " "))
def okLoop (bs : List Str) : V → Bool
  | .str z => loopB bs z
  | _ => false
/-- a value that may be passed where a text is asked for: a text of some length, or no text at all -/
def Any (K : PySem.W.Frag) (H : Hp) (v : V) : Prop := (∃ z : Str, v = .str z ∧ z.length + 2 ≤ sizeLine) ∨ ((∀ z, v ≠ .str z) ∧ ∃ t, TyX K H v t ∧ PySem.W.kitOne K t (.type "str") = some false)
theorem okLoop_no {bs : List Str} {v : V} (h : ∀ z, v ≠ .str z) : okLoop bs v = false := by
  cases v with
  | str z => exact absurd rfl (h z)
  | _ => rfl
theorem spl_ne (S : List Nat) : ∀ (l : List Nat) (k : Nat) (acc : List Nat), spl S k acc l ≠ []
  | [], k, acc => by rw [spl_nil]; exact List.cons_ne_nil _ _
  | c :: r, 0, acc => by
    unfold spl
    split
    · exact List.cons_ne_nil _ _
    · exact spl_ne S r 0 _
  | _ :: r, k + 1, acc => spl_ne S r k acc
theorem kind_one (z y : Str) (h : y.cps.all (· < 256) = true) : ¬ Builtin.Str.strKind z < Builtin.Str.strKind y := by
  have h1 : Builtin.Str.strKind y = 1 := by
    unfold Builtin.Str.strKind
    rw [if_pos h]
  have h2 : 1 ≤ Builtin.Str.strKind z := by
    unfold Builtin.Str.strKind
    split
    · omega
    · split <;> omega
  omega
theorem split_ne (z : Str) : Txt.split z " " ≠ [] := by
  intro e
  have h := split_spl z " " (by decide +kernel) (kind_one z " " (by decide +kernel))
  rw [e] at h
  exact spl_ne _ _ _ _ h.symm
theorem last_of {ws : List Str} (h : ws ≠ []) : ∃ as z, ws = as ++ [z] := ⟨ws.dropLast, ws.getLast h, (List.dropLast_concat_getLast h).symm⟩
theorem sIx_last (n : Nat) (d : Nat) : HT.sIx (n + 1) d (some (-1)) = n := by
  show (if (-1 : Int) < 0 then ((-1 : Int) + ((n + 1 : Nat) : Int)).toNat else min (-1 : Int).toNat (n + 1)) = n
  rw [if_pos (by decide)]
  omega
theorem cut_last (as : List Str) (z : Str) : cutV ((as ++ [z]).map V.str) none (some (-1)) = as.map V.str := by
  unfold cutV
  have e : ((as ++ [z]).map V.str).length = as.length + 1 := by simp
  rw [e, sIx_last, HT.sIx_none, Nat.sub_zero, List.drop_zero, List.map_append, List.take_append_of_le_length (by simp), List.take_of_length_le (by simp)]
/-- the names that the program's checks use -/
structure Ck (K : PySem.W.Frag) (mg : Str → Option Value) : Prop where
  isinstance : mg "isinstance" = none
  str : mg "str" = none
theorem loopW_len (bs : List Str) : ∀ ws : List Str, ws.length ≠ 3 → loopW bs ws = false
  | [], _ => rfl
  | [_], _ => rfl
  | [_, _], _ => rfl
  | [_, _, _], h => absurd rfl h
  | _ :: _ :: _ :: _ :: _, _ => rfl
theorem three_of : ∀ ws : List Str, ws.length = 3 → ∃ a b c, ws = [a, b, c]
  | [a, b, c], _ => ⟨a, b, c, rfl⟩
def spLoop (K : PySem.W.Frag) : Sp := fun vs H Q _ => ∃ (v : V) (b : Addr) (bs : List Str), vs = [v, .ref b] ∧ SqT K H b (bs.map V.str) ∧ Any K H v ∧ ∀ H', Same H H' → Q (.bl (okLoop bs v)) H'
section
variable {P : Program} {w : World} {K : PySem.W.Frag} {mg : Str → Option Value} {base : Heap}
theorem scLoop : FnScope ["value", "bounds", "words"] ["value", "bounds"] (defScope sLoop) := ⟨rfl, rfl, rfl, by decide +kernel, rfl, by decide +kernel, by decide +kernel⟩
theorem ok_loop {f : Addr} {fd : FuncData} (F : Fun K "is_loop" "is_loop" sLoop f fd) (T : Bt mg) (C : Ck K mg) : FnOk P w K mg base CX0 1 f fd ["value", "bounds"] (spLoop K) := by
  refine F.ok scLoop (fun vs H Q E h => ?_) (fun cdv A outer s H vs Q E hr h => ?_)
  · obtain ⟨v, b, bs, rfl, _⟩ := h
    rfl
  · obtain ⟨v, b, bs, rfl, hb, hv, q⟩ := h
    refine ⟨_, pss_cons (ps_if (pt_not (pt_val (pe_callB call_isi (by rfl) C.isinstance (by decide +kernel) (pa_cons (pv 0) (pa_cons (pe_bltn (v := .ty "str") (by rfl) C.str (by decide +kernel) rfl) pa_nil)))))
        (pss_one (ps_ret pe_bl)) pss_nil)
      (pss_cons (ps_set (i := 2) scLoop.nd rfl (.inl rfl) (pe_split (pv 0) pe_str))
      (pss_cons (ps_if (pt_cmpR op_eq (pe_ix ix_list (pv 2) (pe_un un_neg pe_int) (fun _ _ => rfl)) pe_str (nomark _))
        (pss_one (ps_set (i := 2) scLoop.nd rfl (.inl rfl) (pe_slice sl_list (pv 2) po_none (po_some (pe_un un_neg pe_int))))) pss_nil)
      (pss_one (ps_ret (pe_and (pe_cmpR op_eq (pe_callB call_len_seq (by rfl) T.len PySem.boot_len (pa_cons (pv 2) pa_nil)) pe_int (nomark _))
        (pe_and (pe_cmpR op_in_seq (pe_ix ix_list (pv 2) pe_int (fun _ _ => rfl)) (pv 1) (by rfl))
        (pe_and (pe_cmpR op_eq (pe_ix ix_list (pv 2) pe_int (fun _ _ => rfl)) pe_str (nomark _))
        (pe_one (pe_cmpR op_in_seq (pe_ix ix_list (pv 2) pe_int (fun _ _ => rfl)) (pv 1) (by rfl)))))))))), ?_⟩
    rcases hv with ⟨z, rfl, hz⟩ | ⟨hn, t, ht, hk⟩
    case inr =>
      refine ⟨_, rfl, _, _, t, _, false, rfl, .ty "str", ht, hk, false, rfl, ?_⟩
      refine iteT ?_
      have z := q H (Same.refl _)
      rw [okLoop_no hn] at z
      exact z
    refine ⟨_, rfl, _, _, .type "str", _, true, rfl, .ty "str", .base (.str z), kit_ty (by decide +kernel), true, rfl, ?_⟩
    refine iteF ?_
    obtain ⟨as, l, ews⟩ := last_of (split_ne z)
    refine ⟨_, rfl, ⟨_, rfl⟩, _, _, rfl, rfl, rfl, hz, fun p np => ?_⟩
    have fin : ∀ (p : Addr) (ws : List Str) (H' : Hp) (v : Option V), Same H H' → H' p = some (.lst (ws.map V.str)) → cutDown (Txt.split z " ") = ws →
        tAndV (tOp rEq (tCB (fun xs H1 Q => ∃ p ys, xs = [V.ref p] ∧ (SqL K H1 p ys ∨ SqT K H1 p ys) ∧ Q (V.int ys.length) H1) (tCons (tVar 2) tNil)) (tC (V.int 3)))
          (tAndV (tOp (rIn K false) (tOp (rIxL K) (tVar 2) (tC (V.int 0))) (tVar 1))
            (tAndV (tOp rEq (tOp (rIxL K) (tVar 2) (tC (V.int 1))) (tC (V.str (Str.ofString "to")))) (tOp (rIn K false) (tOp (rIxL K) (tVar 2) (tC (V.int 2))) (tVar 1))))
          [some (V.str z), some (V.ref b), some (V.ref p)] H' Q := by
      intro p ws H' v sm hp e
      refine ⟨_, rfl, p, _, rfl, .inl (SqL.of hp), rfl, _, rfl, ?_⟩
      have goal : ∀ r, r = loopW bs ws → Q (.bl r) H' := fun r er => by
        have h := q H' sm
        rw [er, ← e]
        exact h
      have hb' : SqT K H' b (bs.map V.str) := hb.ext sm
      by_cases h3 : ws.length = 3
      · obtain ⟨x, y, c, rfl⟩ := three_of ws h3
        refine ite2 (fun _ => ?_) (fun n => absurd (decide_eq_true rfl) n)
        refine ⟨_, rfl, p, _, 0, _, rfl, rfl, SqL.of hp, rfl, _, rfl, b, _, rfl, .inr hb', rfl, flat_strs bs, _, rfl, ?_⟩
        rw [inV_str]
        cases hx : memB bs x with
        | false => exact iteF (goal _ (by simp [loopW, hx]))
        | true =>
          refine iteT ?_
          refine ⟨_, rfl, p, _, 1, _, rfl, rfl, SqL.of hp, rfl, rfl, _, rfl, ?_⟩
          by_cases hy : y = "to"
          · refine ite2 (fun _ => ?_) (fun n => absurd (decide_eq_true (congrArg V.str hy)) n)
            refine ⟨_, rfl, p, _, 2, _, rfl, rfl, SqL.of hp, rfl, _, rfl, b, _, rfl, .inr hb', rfl, flat_strs bs, ?_⟩
            show Q (.bl (inV (.str c) (bs.map V.str))) H'
            rw [inV_str]
            exact goal _ (by simp [loopW, hx, hy])
          · refine ite2 (fun z => absurd (V.str.inj (of_decide_eq_true z)) hy) (fun _ => ?_)
            exact goal _ (by simp [loopW, hx, hy])
      · refine ite2 (fun z => absurd ?_ h3) (fun _ => ?_)
        · have e2 := V.int.inj (of_decide_eq_true z)
          rw [List.length_map] at e2
          omega
        exact goal _ (loopW_len bs ws h3).symm
    have s1 : Same H (upd H p (.lst ((Txt.split z " ").map V.str))) := fun c o e => by
      rw [upd_ne (ne_of_none e np)]
      exact e
    have hat : atI ((Txt.split z " ").map V.str) (-1) = some (.str l) := by
      rw [ews, List.map_append]
      exact atI_last _ _
    refine ⟨_, rfl, _, rfl, p, _, _, _, rfl, rfl, SqL.of upd_same, hat, rfl, _, rfl, ?_⟩
    refine ite2 (fun hd => ?_) (fun hd => ?_)
    · have hl : l = "down" := V.str.inj (of_decide_eq_true hd)
      refine ⟨_, rfl, _, rfl, _, rfl, p, _, rfl, SqL.of upd_same, fun p2 np2 => ?_⟩
      refine fin p2 as _ none (fun c o e => ?_) ?_ ?_
      · have h1 := s1 c o e
        rw [upd_ne (ne_of_none h1 np2)]
        exact h1
      · rw [upd_same, ews]
        exact congrArg (fun l => some (HO.lst l)) (cut_last as l)
      · rw [ews]
        unfold cutDown
        rw [List.getLast?_concat, hl, if_pos rfl, List.dropLast_concat]
    · have hl : ¬ l = "down" := fun e => hd (decide_eq_true (congrArg V.str e))
      refine fin p _ _ none s1 upd_same ?_
      rw [ews]
      unfold cutDown
      rw [List.getLast?_concat, if_neg (fun e => hl (Option.some.inj e))]
end
end Sq
namespace Sq
open PySem L2 TL
theorem tyOf_ext {K : PySem.W.Frag} {H H' : Hp} {x : V} {t : Value} (e : Same H H') (h : TyOf K H x t) : TyOf K H' x t := by
  cases h with
  | non => exact .non
  | bl x => exact .bl x
  | int i => exact .int i
  | str x => exact .str x
  | flt x => exact .flt x
  | lst h => exact .lst (e _ _ h)
  | frz h => exact .frz (e _ _ h)
  | tup h => exact .tup (e _ _ h)
  | dK h => exact .dK (e _ _ h)
  | dT h => exact .dT (e _ _ h)
  | ins h c a n k m => exact .ins (e _ _ h) c a n k m
theorem tyX_ext {K : PySem.W.Frag} {H H' : Hp} {x : V} {t : Value} (e : Same H H') (h : TyX K H x t) : TyX K H' x t := by
  cases h
  case base h => exact .base (tyOf_ext e h)
  case byt => exact .byt _
  case set h => exact .set (e _ _ h)
  case kList h c => exact .kList h c
  case kTuple h c => exact .kTuple h c
  case kDict h c => exact .kDict h c
  case fTuple h => exact .fTuple (e _ _ h)
  case fDict h => exact .fDict (e _ _ h)
theorem Any.ext {K : PySem.W.Frag} {H H' : Hp} {v : V} (e : Same H H') (h : Any K H v) : Any K H' v := by
  rcases h with h | ⟨h1, t, h2, h3⟩
  · exact .inl h
  · exact .inr ⟨h1, t, tyX_ext e h2, h3⟩
theorem same_new {H : Hp} {p : Addr} {o : HO} (h : H p = none) : Same H (upd H p o) := fun b u e => by
  rw [upd_ne (ne_of_none e h)]
  exact e
/-- the tables of the checks, as they stand in the text -/
structure Tb (K : PySem.W.Frag) (mg : Str → Option Value) (aO aI fL fO fI : Addr) : Prop where
  mO : mg "OUTER_BOUNDS" = some (.ref aO)
  tO : ∀ H, SqT K H aO (obs.map V.str)
  mI : mg "BOUNDS_WITH_I" = some (.ref aI)
  tI : ∀ H, SqT K H aI (ibs.map V.str)
  mL : mg "is_loop" = some (.ref fL)
  mOL : mg "is_outer_loop" = some (.ref fO)
  mIL : mg "is_inner_loop" = some (.ref fI)
def spTest (K : PySem.W.Frag) (bs : List Str) : Sp := fun vs H Q _ => ∃ v : V, vs = [v] ∧ Any K H v ∧ ∀ H', Same H H' → Q (.bl (okLoop bs v)) H'
section
variable {P : Program} {w : World} {K : PySem.W.Frag} {mg : Str → Option Value} {base : Heap} {aO aI fL fO fI : Addr} {dL : FuncData}
theorem scOuterL : FnScope ["value"] ["value"] (defScope sOuterL) := ⟨rfl, rfl, rfl, by decide +kernel, rfl, by decide +kernel, by decide +kernel⟩
theorem ok_outer {fd : FuncData} (F : Fun K "is_outer_loop" "is_outer_loop" sOuterL fO fd) (B : Tb K mg aO aI fL fO fI) (GL : FnOk P w K mg base CX0 1 fL dL ["value", "bounds"] (spLoop K)) (bL : Binds K dL ["value", "bounds"] []) (kL : PySem.W.keepIn K (.ref fL) = true) :
    FnOk P w K mg base CX0 2 fO fd ["value"] (spTest K obs) := by
  refine F.ok scOuterL (fun vs H Q E h => ?_) (fun cdv A outer s H vs Q E hr h => ?_)
  · obtain ⟨v, rfl, _⟩ := h
    rfl
  · obtain ⟨v, rfl, hv, q⟩ := h
    refine ⟨_, pss_one (ps_ret (pe_call GL hr (by rfl) B.mL kL bL .nil pass0 (pa_cons (pv 0) (pa_cons (pe_glob (v := .ref aO) (by rfl) B.mO rfl) pa_nil)))), ?_⟩
    exact ⟨_, rfl, v, aO, obs, rfl, B.tO _, hv, q⟩
theorem scInnerL : FnScope ["value"] ["value"] (defScope sInnerL) := ⟨rfl, rfl, rfl, by decide +kernel, rfl, by decide +kernel, by decide +kernel⟩
theorem ok_inner {fd : FuncData} (F : Fun K "is_inner_loop" "is_inner_loop" sInnerL fI fd) (B : Tb K mg aO aI fL fO fI) (GL : FnOk P w K mg base CX0 1 fL dL ["value", "bounds"] (spLoop K)) (bL : Binds K dL ["value", "bounds"] []) (kL : PySem.W.keepIn K (.ref fL) = true) :
    FnOk P w K mg base CX0 2 fI fd ["value"] (spTest K (obs ++ ibs)) := by
  refine F.ok scInnerL (fun vs H Q E h => ?_) (fun cdv A outer s H vs Q E hr h => ?_)
  · obtain ⟨v, rfl, _⟩ := h
    rfl
  · obtain ⟨v, rfl, hv, q⟩ := h
    refine ⟨_, pss_one (ps_ret (pe_call GL hr (by rfl) B.mL kL bL .nil pass0 (pa_cons (pv 0) (pa_cons (pe_op op_catT (pe_glob (v := .ref aO) (by rfl) B.mO rfl) (pe_glob (v := .ref aI) (by rfl) B.mI rfl)) pa_nil)))), ?_⟩
    refine ⟨_, rfl, aO, aI, _, _, rfl, rfl, B.tO _, B.tI _, (by decide), (by decide), fun z => absurd z (by decide), fun _ p np => ?_⟩
    exact ⟨v, p, obs ++ ibs, rfl, by rw [List.map_append]; exact SqT.of upd_same, hv.ext (same_new np), fun H' e => q H' ((same_new np).trans e)⟩

abbrev sFirst : Stmt := top 8
abbrev sWrong : Stmt := top 16
abbrev sIsDeed : Stmt := top 13
def fw (i m : Nat) : List Bool → Option Nat
  | [] => none
  | b :: r => if i = m ∨ b = false then some i else fw (i + 1) m r
def optV : Option Nat → V
  | none => .non
  | some i => .int (i : Int)
def spFirst (K : PySem.W.Frag) : Sp := fun vs H Q _ => ∃ (p : Addr) (m : Nat) (bs : List Bool), vs = [.ref p, .int (m : Int)] ∧ SqL K H p (bs.map V.bl) ∧ ∀ H', Same H H' → Q (optV (fw 0 m bs)) H'
theorem scFirst : FnScope ["rights", "most", "index", "right"] ["rights", "most"] (defScope sFirst) := ⟨rfl, rfl, rfl, by decide +kernel, rfl, by decide +kernel, by decide +kernel⟩
theorem ok_first {f : Addr} {fd : FuncData} (F : Fun K "first_wrong" "first_wrong" sFirst f fd) (he : mg "enumerate" = none) : FnOk P w K mg base CX0 1 f fd ["rights", "most"] (spFirst K) := by
  refine F.ok scFirst (fun vs H Q E h => ?_) (fun cdv A outer s H vs Q E hr h => ?_)
  · obtain ⟨p, m, bs, rfl, _⟩ := h
    rfl
  · obtain ⟨p, m, bs, rfl, hp, q⟩ := h
    refine ⟨_, pss_cons (ps_for PassesOwn.never rfl (pi_enum (by rfl) he (pa_cons (pv 0) pa_nil)) (pg_tup (by rfl) (pgs_cons (pg_name (i := 2) scFirst.nd rfl (.inl rfl)) (pgs_cons (pg_name (i := 3) scFirst.nd rfl (.inl rfl)) pgs_nil)))
        (pss_one (ps_if (PW.pt (pw_or (pt_cmpR op_eq (pv 2) (pv 1) (nomark _)) (pw_or1 (pt_not (pt_val (pv 3)))))) (pss_one (ps_ret (pv 2))) pss_nil)))
      (pss_one (ps_ret pe_non)), ?_⟩
    refine ⟨_, rfl, p, _, rfl, hp, ?_⟩
    refine for_it (walk_enum (xs := bs.map V.bl)) (fun i σ H' => (∃ v1 v2, σ = [some (.ref p), some (.int (m : Int)), v1, v2]) ∧ Same H H' ∧ fw 0 m bs = fw i m (bs.drop i)) ⟨⟨_, _, rfl⟩, Same.refl _, rfl⟩
      (fun i σ H' _ h => SqL.ext hp h.2.1) (fun i x σ H' H'' hi h y => ?_) (fun σ H' h => ?_)
    · obtain ⟨⟨v1, v2, rfl⟩, sm, hfw⟩ := h
      obtain ⟨T, x1, x2, rfl, hT, rfl, e1, e2⟩ := y
      cases e1
      have e2 : (bs.map V.bl)[i]? = some x2 := e2
      rw [List.getElem?_map] at e2
      have hlt : i < bs.length := by simpa using hi
      rw [List.getElem?_eq_getElem hlt] at e2
      cases e2
      rw [List.drop_eq_getElem_cons hlt] at hfw
      have sm2 : Same H (upd H' T (.tup [.int (i : Int), .bl bs[i]])) := sm.trans (same_new hT)
      refine ⟨T, _, rfl, SqT.of upd_same, rfl, _, _, rfl, _, _, rfl, rfl, ?_⟩
      refine ⟨_, rfl, _, rfl, rfl, _, rfl, ?_⟩
      refine ite2 (fun hm => ?_) (fun hm => ?_)
      · have e3 : i = m := Int.ofNat.inj (V.int.inj (of_decide_eq_true hm))
        refine ⟨_, rfl, ?_⟩
        have z := q _ sm2
        rw [hfw] at z
        unfold fw at z
        rw [if_pos (.inl e3)] at z
        exact z
      · have e3 : ¬ i = m := fun e => hm (decide_eq_true (by rw [e]))
        refine ⟨_, rfl, _, rfl, ?_⟩
        cases hb : bs[i] with
        | false =>
          refine iteT ?_
          refine ⟨_, rfl, ?_⟩
          have z := q _ sm2
          rw [hfw] at z
          unfold fw at z
          rw [if_pos (.inr hb)] at z
          rw [hb] at z
          exact z
        | true =>
          refine iteF ?_
          rw [hb] at sm2
          refine ⟨⟨_, _, rfl⟩, sm2, hfw.trans ?_⟩
          show (if i = m ∨ bs[i] = false then some i else fw (i + 1) m (bs.drop (i + 1))) = _
          rw [if_neg (fun e => e.elim e3 fun z => by rw [hb] at z; cases z)]
    · obtain ⟨⟨v1, v2, rfl⟩, sm, hfw⟩ := h
      have z := q _ sm
      rw [hfw, List.length_map, List.drop_length] at z
      exact z
end
end Sq
namespace Sq
open PySem L2 TL
abbrev sNInit : Stmt := inClass (top 22) 0
abbrev sNOuter : Stmt := inClass (top 22) 1
abbrev sNInner : Stmt := inClass (top 22) 2
abbrev sNDeeds : Stmt := inClass (top 22) 3
abbrev sNLen : Stmt := inClass (top 22) 4
abbrev sNBool : Stmt := inClass (top 22) 5
abbrev sNEq : Stmt := inClass (top 22) 6
theorem ko_i : ¬ (("_inner" : Str) = "_outer") := by decide +kernel
theorem ko_d : ¬ (("_deeds" : Str) = "_outer") := by decide +kernel
theorem ki_o : ¬ (("_outer" : Str) = "_inner") := by decide +kernel
theorem ki_d : ¬ (("_deeds" : Str) = "_inner") := by decide +kernel
theorem kd_o : ¬ (("_outer" : Str) = "_deeds") := by decide +kernel
theorem kd_i : ¬ (("_inner" : Str) = "_deeds") := by decide +kernel
/-- the attributes of a nest -/
def nfl (o i : Str) (dp : Addr) : List (Str × V) := putF "_deeds" (.ref dp) (putF "_inner" (.str i) (putF "_outer" (.str o) []))
theorem nfl_outer (o i : Str) (dp : Addr) : (nfl o i dp).lookup ("_outer" : Str) = some (.str o) := by
  unfold nfl
  rw [lookup_putF, if_neg kd_o, lookup_putF, if_neg ki_o, lookup_putF, if_pos rfl]
theorem nfl_inner (o i : Str) (dp : Addr) : (nfl o i dp).lookup ("_inner" : Str) = some (.str i) := by
  unfold nfl
  rw [lookup_putF, if_neg kd_i, lookup_putF, if_pos rfl]
theorem nfl_deeds (o i : Str) (dp : Addr) : (nfl o i dp).lookup ("_deeds" : Str) = some (.ref dp) := by
  unfold nfl
  rw [lookup_putF, if_pos rfl]
theorem nfl_no (o i : Str) (dp : Addr) {m : Str} (h1 : ¬ m = "_outer") (h2 : ¬ m = "_inner") (h3 : ¬ m = "_deeds") : (nfl o i dp).lookup m = none := by
  unfold nfl
  rw [lookup_putF, if_neg h3, lookup_putF, if_neg h2, lookup_putF, if_neg h1]
  all_goals rfl
/-- a nest stands at a -/
def NestAt (C : Addr) (H : Hp) (a : Addr) (o i : Str) (ds : List Str) : Prop := ∃ dx dp, H a = some (.ins C dx (nfl o i dp)) ∧ H dp = some (.tup (ds.map V.str))
theorem NestAt.ext {C : Addr} {H H' : Hp} {a : Addr} {o i : Str} {ds : List Str} (e : Same H H') (h : NestAt C H a o i ds) : NestAt C H' a o i ds := by
  obtain ⟨dx, dp, h1, h2⟩ := h
  exact ⟨dx, dp, e _ _ h1, e _ _ h2⟩
/-- the class Nest as it stands in the text -/
structure Nc (K : PySem.W.Frag) (C : Addr) : Prop where
  cl : Cls K C
  nO : NoAttr K C "_outer"
  nI : NoAttr K C "_inner"
  nD : NoAttr K C "_deeds"
def spNone : Sp := fun _ _ _ _ => False
theorem ok_none {P : Program} {w : World} {K : PySem.W.Frag} {mg : Str → Option Value} {base : Heap} {k : Nat} {f : Addr} {fd : FuncData} {ps : List Str} : FnOk P w K mg base CX0 k f fd ps spNone :=
  ⟨fun _ _ _ _ h => h.elim, fun _ _ _ _ _ _ _ _ _ _ _ _ _ h => h.elim⟩
section
variable {P : Program} {w : World} {K : PySem.W.Frag} {mg : Str → Option Value} {base : Heap} {aO aI fL fO fI fF fD fW : Addr} {dO dI dF dD dW : FuncData} {C : Addr}
/-- the deeds of a nest without any are right -/
def spWrong0 (K : PySem.W.Frag) : Sp := fun vs H Q _ => ∃ dp : Addr, vs = [.ref dp] ∧ H dp = some (.tup []) ∧ ∀ H', Same H H' → Q .non H'
theorem scWrong : FnScope ["deeds", "deed"] ["deeds"] (defScope sWrong) := ⟨rfl, rfl, rfl, by decide +kernel, rfl, by decide +kernel, by decide +kernel⟩
theorem ok_wrong0 {f : Addr} {fd : FuncData} (F : Fun K "wrong_deed" "wrong_deed" sWrong f fd) (GF : FnOk P w K mg base CX0 1 fF dF ["rights", "most"] (spFirst K)) (bF : Binds K dF ["rights", "most"] []) (kF : PySem.W.keepIn K (.ref fF) = true) (mF : mg "first_wrong" = some (.ref fF))
    (bD : Binds K dD ["value"] []) (kD : PySem.W.keepIn K (.ref fD) = true) (mD : mg "is_deed" = some (.ref fD)) {u : Tok} (mM : mg "MOST_DEEDS" = some (.int 6 u)) : FnOk P w K mg base CX0 3 f fd ["deeds"] (spWrong0 K) := by
  have GD : FnOk P w K mg base CX0 2 fD dD ["value"] spNone := ok_none
  refine F.ok scWrong (fun vs H Q E h => ?_) (fun cdv A outer s H vs Q E hr h => ?_)
  · obtain ⟨dp, rfl, _⟩ := h
    rfl
  · obtain ⟨dp, rfl, hd, q⟩ := h
    refine ⟨_, pss_one (ps_ret (pe_call GF (hr.mono (by decide)) (by rfl) mF kF bF .nil pass0 (pa_cons (pe_lc (own := [("deed", 1)]) (g := gName 1) (by rfl) scWrong.nd (pi_tup (pv 0))
      (blkOk_by (own := [("deed", 1)]) (N := ["deeds", "deed"]) (sc := defScope sWrong) (by decide +kernel)) (fun _ _ _ _ _ => pg_name (i := 1) scWrong.nd rfl (Or.inl rfl)) (fun _ _ _ _ _ => pts_nil)
      (fun _ _ _ _ _ => pe_call GD hr (by rfl) mD kD bD .nil pass0 (pa_cons (pv 1) pa_nil))) (pa_cons (pe_glob (v := .int 6) (by rfl) mM ⟨_, rfl⟩) pa_nil)))), ?_⟩
    refine ⟨_, rfl, dp, rfl, ⟨_, SqT.of hd⟩, fun D hD => ?_⟩
    refine lc_tup (K := K) (a := dp) (xs := []) (fun _ H' => H' = upd H D (.lst [])) rfl (fun i H' _ h => ?_) (fun i x H' hx _ => ?_) (fun H' h => ?_)
    · rw [h]
      exact (SqT.of hd).ext (same_new hD)
    · simp at hx
    · rw [h]
      exact ⟨D, 6, [], rfl, SqL.of upd_same, fun H2 sm => q H2 ((same_new hD).trans sm)⟩
end
end Sq
namespace Sq
open PySem L2 TL
theorem putF_len (f : Str) (v : V) : ∀ fs : List (Str × V), (putF f v fs).length ≤ fs.length + 1
  | [] => Nat.le_refl _
  | (g, x) :: r => by
    unfold putF
    split
    · exact Nat.le_succ _
    · exact Nat.succ_le_succ (putF_len f v r)
section
variable {P : Program} {w : World} {K : PySem.W.Frag} {mg : Str → Option Value} {base : Heap} {aO aI fL fO fI fF fD fW : Addr} {dO dI dF dD dW : FuncData} {C : Addr}
def spInit0 (C : Addr) : Sp := fun vs H Q _ => ∃ (x dx dp : Addr) (o i : Str), vs = [.ref x, .str o, .str i, .ref dp] ∧ H x = some (.ins C dx []) ∧ H dp = some (.tup []) ∧ o.length + 2 ≤ sizeLine ∧ i.length + 2 ≤ sizeLine ∧
  loopB obs o = true ∧ loopB (obs ++ ibs) i = true ∧ ∀ H' : Hp, H' x = some (.ins C dx (nfl o i dp)) → Off x H H' → Q .non H'
theorem scNInit : FnScope ["self", "outer", "inner", "deeds", "index"] ["self", "outer", "inner", "deeds"] (defScope sNInit) := ⟨rfl, rfl, rfl, by decide +kernel, rfl, by decide +kernel, by decide +kernel⟩
theorem init_body (N : Nc K C) (B : Tb K mg aO aI fL fO fI) (GO : FnOk P w K mg base CX0 2 fO dO ["value"] (spTest K obs)) (bO : Binds K dO ["value"] []) (kO : PySem.W.keepIn K (.ref fO) = true)
    (GI : FnOk P w K mg base CX0 2 fI dI ["value"] (spTest K (obs ++ ibs))) (bI : Binds K dI ["value"] []) (kI : PySem.W.keepIn K (.ref fI) = true)
    (GW : FnOk P w K mg base CX0 3 fW dW ["deeds"] (spWrong0 K)) (bW : Binds K dW ["deeds"] []) (kW : PySem.W.keepIn K (.ref fW) = true) (mW : mg "wrong_deed" = some (.ref fW))
    {f : Addr} {cdv : Value} {A : Around} {outer : List Env} {s : Shared} {H : Hp} {vs : List V} {Q : VK} {E : XK} (hr : Room 3 (A.deeper (PyProof.Rows.envOfC "Nest.__init__" (defScope sNInit) s.heap.objs.size f cdv))) (h : spInit0 C vs H Q E) :
    ∃ t, PSs (cxOf CX0 P w K mg base ["self", "outer", "inner", "deeds", "index"] "Nest.__init__" (defScope sNInit) f cdv A outer s H E) (defBody sNInit) t ∧
      t { nx := fun _ H' => Q .non H', rt := Q } (L2.start ["self", "outer", "inner", "deeds", "index"] vs) H := by
  obtain ⟨x, dx, dp, o, i, rfl, hx, hd, ho, hi, lo, li, q⟩ := h
  have hr2 := hr.mono (show 2 ≤ 3 by decide)
  refine ⟨_, pss_cons (ps_if (pt_not (pt_val (pe_call GO hr2 (by rfl) B.mOL kO bO .nil pass0 (pa_cons (pv 1) pa_nil)))) (pss_one ps_never) pss_nil)
    (pss_cons (ps_if (pt_not (pt_val (pe_call GI hr2 (by rfl) B.mIL kI bI .nil pass0 (pa_cons (pv 2) pa_nil)))) (pss_one ps_never) pss_nil)
    (pss_cons (ps_set (i := 4) scNInit.nd rfl (.inl rfl) (pe_call GW hr (by rfl) mW kW bW .nil pass0 (pa_cons (pv 3) pa_nil)))
    (pss_cons (ps_if (pt_cmpR op_notN (pv 4) pe_non (nomark _)) (pss_one ps_never) pss_nil)
    (pss_cons (ps_fld (pv 0) (pv 1) rfl)
    (pss_cons (ps_fld (pv 0) (pv 2) rfl)
    (pss_one (ps_fld (pv 0) (pv 3) rfl))))))), ?_⟩
  refine ⟨_, rfl, .str o, rfl, .inl ⟨o, rfl, ho⟩, fun H1 s1 => ⟨_, rfl, ?_⟩⟩
  rw [show okLoop obs (.str o) = true from lo]
  refine iteF ?_
  refine ⟨_, rfl, .str i, rfl, .inl ⟨i, rfl, hi⟩, fun H2 s2 => ⟨_, rfl, ?_⟩⟩
  rw [show okLoop (obs ++ ibs) (.str i) = true from li]
  refine iteF ?_
  refine ⟨_, rfl, dp, rfl, s2 _ _ (s1 _ _ hd), fun H3 s3 => ?_⟩
  have sm : Same H H3 := (s1.trans s2).trans s3
  refine ⟨_, rfl, rfl, _, rfl, ?_⟩
  refine iteF ?_
  refine ⟨_, rfl, _, rfl, x, C, dx, _, rfl, sm _ _ hx, N.cl, N.nO, (by show 0 < 1000; decide), ?_⟩
  refine ⟨_, rfl, _, rfl, x, C, dx, _, rfl, upd_same, N.cl, N.nI, (by show 1 < 1000; decide), ?_⟩
  refine ⟨_, rfl, _, rfl, x, C, dx, _, rfl, upd_same, N.cl, N.nD, ?_, ?_⟩
  · show (putF "_inner" (.str i) (putF "_outer" (.str o) [])).length < 1000
    have h1 := putF_len "_inner" (.str i) (putF "_outer" (.str o) [])
    have h2 := putF_len "_outer" (.str o) []
    have h3 : ([] : List (Str × V)).length = 0 := rfl
    omega
  · refine q _ upd_same fun b u hb e => ?_
    rw [upd_ne hb, upd_ne hb, upd_ne hb]
    exact sm _ _ e
end
end Sq
namespace Sq
open PySem L2 TL
section
variable {X : Cx} {k : Nat} {f C : Addr} {sp : Sp}
/-- len(o), o an instance of a class of the text with a __len__ -/
theorem call_lenO (hs : PySem.W.findIn X.K (.ref C) "__len__" = some (some (.ref f))) (hf : PySem.W.isFn X.K (.ref f) = true) (F : FnR X.prog X.w X.K X.mg X.base CX0 k f sp) (hr : Room (k + 1) X.A) :
    CallR X (.builtin "len") (fun xs H Q => ∃ a dx fs, xs = [.ref a] ∧ H a = some (.ins C dx fs) ∧ sp [.ref a] H (fun v H' => ∃ n : Int, v = .int n ∧ 0 ≤ n ∧ n < 2 ^ 63 ∧ Q (.int n) H') E0) := by
  intro pins s σ H xs us Q I r h
  obtain ⟨a, dx, fs, rfl, ha, q⟩ := h
  obtain ⟨u, rfl, r1⟩ := vals1 r
  cases r1
  obtain ⟨mA, J, _⟩ := ins_get I.hok ha
  obtain ⟨od, J, _⟩ := J.look
  obtain ⟨m, hF⟩ := I.fr
  refine PySem.W.len_K hF I.ok.mod.kin J hs hf ?_
  refine wpAny_mono (run_below F hr.in1 rfl I (rel1 a) q) (fun v s' hv => ?_) fun _ _ z => z
  obtain ⟨y, H', I', ry, n, ey, h0, h1, q'⟩ := hv
  subst ey
  obtain ⟨t, rfl⟩ := ry
  exact ⟨⟨h0, h1⟩, .int n, H', I'.tok _, ⟨_, rfl⟩, q'⟩
end
theorem eqv_strs : ∀ ds es : List Str, PyData.eqvAll (ds.map .str) (es.map .str) = decide (ds = es)
  | [], [] => rfl
  | d :: ds, e :: es => by
    have ih := eqv_strs ds es
    show (PyData.eqv (.str d) (.str e) && PyData.eqvAll (ds.map .str) (es.map .str)) = _
    rw [ih]
    show ((d == e) && decide (ds = es)) = decide (d :: ds = e :: es)
    by_cases h1 : d = e
    · by_cases h2 : ds = es
      · simp [h1, h2]
      · simp [h1, h2]
    · simp [h1]
  | [], e :: es => by
    show false = decide (([] : List Str) = e :: es)
    simp
  | d :: ds, [] => by
    show false = decide (d :: ds = ([] : List Str))
    simp
theorem dp_strs {K : PySem.W.Frag} {H : Hp} : ∀ ds : List Str, DpAll K H (ds.map V.str) (ds.map PyData.str)
  | [] => .nil
  | d :: ds => .cons (.str d) (dp_strs ds)
section
variable {P : Program} {w : World} {K : PySem.W.Frag} {mg : Str → Option Value} {base : Heap} {aO aI fL fO fI fF fD fW : Addr} {dO dI dF dD dW : FuncData} {C : Addr}
def spMade (C : Addr) : Sp := fun vs H Q E => ∃ ws rest, vs = ws ++ rest ∧ ws.length = (["self", "outer", "inner"] : List Str).length ∧ rest.length ≤ sizeLine ∧ ∀ p, H p = none → spInit0 C (ws ++ [V.ref p]) (upd H p (.tup rest)) Q E
theorem ok_initR {f : Addr} {fd : FuncData} (F : Fun K "__init__" "Nest.__init__" sNInit f fd) (N : Nc K C) (B : Tb K mg aO aI fL fO fI) (GO : FnOk P w K mg base CX0 2 fO dO ["value"] (spTest K obs)) (bO : Binds K dO ["value"] []) (kO : PySem.W.keepIn K (.ref fO) = true)
    (GI : FnOk P w K mg base CX0 2 fI dI ["value"] (spTest K (obs ++ ibs))) (bI : Binds K dI ["value"] []) (kI : PySem.W.keepIn K (.ref fI) = true)
    (GW : FnOk P w K mg base CX0 3 fW dW ["deeds"] (spWrong0 K)) (bW : Binds K dW ["deeds"] []) (kW : PySem.W.keepIn K (.ref fW) = true) (mW : mg "wrong_deed" = some (.ref fW)) :
    FnR P w K mg base CX0 4 f (spMade C) := by
  obtain ⟨oc, od, kV, doc, pm, an, cdv, ct, osl, rfl, lk, hcd⟩ := F.ex
  refine StX.fn_star (ps := ["self", "outer", "inner"]) (pv := "deeds") (sp := spInit0 C) lk hcd scNInit StX.cxUp_none (fun us rest hl => ?_) fun A outer s H vs Q E hr h => init_body N B GO bO kO GI bI kI GW bW kW mW hr h
  match us, rest, hl with
  | [a, b, c], [], _ => rfl
  | [a, b, c], r :: rs, _ => rfl
theorem ok_initK {f : Addr} {fd : FuncData} (F : Fun K "__init__" "Nest.__init__" sNInit f fd) (N : Nc K C) (B : Tb K mg aO aI fL fO fI) (GO : FnOk P w K mg base CX0 2 fO dO ["value"] (spTest K obs)) (bO : Binds K dO ["value"] []) (kO : PySem.W.keepIn K (.ref fO) = true)
    (GI : FnOk P w K mg base CX0 2 fI dI ["value"] (spTest K (obs ++ ibs))) (bI : Binds K dI ["value"] []) (kI : PySem.W.keepIn K (.ref fI) = true)
    (GW : FnOk P w K mg base CX0 3 fW dW ["deeds"] (spWrong0 K)) (bW : Binds K dW ["deeds"] []) (kW : PySem.W.keepIn K (.ref fW) = true) (mW : mg "wrong_deed" = some (.ref fW)) :
    FnK2 P w K mg base 4 f "inner" "outer" (fun vs H Q E => ∃ x v1 v2, vs = [x, v1, v2] ∧ ∀ p, H p = none → spInit0 C [x, v2, v1, .ref p] (upd H p (.tup [])) Q E) := by
  obtain ⟨oc, od, kV, doc, pm, an, cdv, ct, osl, rfl, lk, hcd⟩ := F.ex
  exact fn_starK2 (n0 := "self") (nv := "deeds") lk hcd scNInit (fun x u1 u2 => rfl) fun A outer s H vs Q E hr h => init_body N B GO bO kO GI bI kI GW bW kW mW hr h
theorem scGet1 : FnScope ["self"] ["self"] (defScope sNOuter) := ⟨rfl, rfl, rfl, by decide +kernel, rfl, by decide +kernel, by decide +kernel⟩
theorem ok_get1 {f : Addr} {fd : FuncData} (F : Fun K "outer" "Nest.outer" sNOuter f fd) (N : Nc K C) : FnOk P w K mg base CX0 1 f fd ["self"] (getSp C "_outer") := by
  obtain ⟨oc, od, kV, doc, pm, an, cdv, ct, osl, rfl, lk, hcd⟩ := F.ex
  exact fn_getter lk hcd scGet1 rfl rfl N.cl N.nO
theorem scGet2 : FnScope ["self"] ["self"] (defScope sNInner) := ⟨rfl, rfl, rfl, by decide +kernel, rfl, by decide +kernel, by decide +kernel⟩
theorem ok_get2 {f : Addr} {fd : FuncData} (F : Fun K "inner" "Nest.inner" sNInner f fd) (N : Nc K C) : FnOk P w K mg base CX0 1 f fd ["self"] (getSp C "_inner") := by
  obtain ⟨oc, od, kV, doc, pm, an, cdv, ct, osl, rfl, lk, hcd⟩ := F.ex
  exact fn_getter lk hcd scGet2 rfl rfl N.cl N.nI
theorem scGet3 : FnScope ["self"] ["self"] (defScope sNDeeds) := ⟨rfl, rfl, rfl, by decide +kernel, rfl, by decide +kernel, by decide +kernel⟩
theorem ok_get3 {f : Addr} {fd : FuncData} (F : Fun K "deeds" "Nest.deeds" sNDeeds f fd) (N : Nc K C) : FnOk P w K mg base CX0 1 f fd ["self"] (getSp C "_deeds") := by
  obtain ⟨oc, od, kV, doc, pm, an, cdv, ct, osl, rfl, lk, hcd⟩ := F.ex
  exact fn_getter lk hcd scGet3 rfl rfl N.cl N.nD
/-- __len__, __bool__, __eq__ of nests -/
def spNLen (C : Addr) : Sp := fun vs H Q _ => ∃ (a : Addr) (o i : Str) (ds : List Str), vs = [.ref a] ∧ NestAt C H a o i ds ∧ Q (.int (ds.length : Int)) H
theorem scNLen : FnScope ["self"] ["self"] (defScope sNLen) := ⟨rfl, rfl, rfl, by decide +kernel, rfl, by decide +kernel, by decide +kernel⟩
theorem ok_nlen {f : Addr} {fd : FuncData} (F : Fun K "__len__" "Nest.__len__" sNLen f fd) (N : Nc K C) (T : Bt mg) : FnOk P w K mg base CX0 1 f fd ["self"] (spNLen C) := by
  refine F.ok scNLen (fun vs H Q E h => ?_) (fun cdv A outer s H vs Q E hr h => ?_)
  · obtain ⟨a, o, i, ds, rfl, _⟩ := h
    rfl
  · obtain ⟨a, o, i, ds, rfl, ⟨dx, dp, h1, h2⟩, q⟩ := h
    refine ⟨_, pss_one (ps_ret (pe_callB call_len_seq (by rfl) T.len PySem.boot_len (pa_cons (pe_fld (pv 0) rfl) pa_nil))), ?_⟩
    refine ⟨_, rfl, a, C, dx, _, _, rfl, h1, N.cl, N.nD, nfl_deeds _ _ _, dp, _, rfl, .inr (SqT.of h2), ?_⟩
    rw [List.length_map]
    exact q
def spNBool (C : Addr) : Sp := fun vs H Q _ => ∃ (a : Addr), vs = [.ref a] ∧ Q (.bl true) H
theorem scNBool : FnScope ["self"] ["self"] (defScope sNBool) := ⟨rfl, rfl, rfl, by decide +kernel, rfl, by decide +kernel, by decide +kernel⟩
theorem ok_nbool {f : Addr} {fd : FuncData} (F : Fun K "__bool__" "Nest.__bool__" sNBool f fd) : FnOk P w K mg base CX0 1 f fd ["self"] (spNBool C) := by
  refine F.ok scNBool (fun vs H Q E h => ?_) (fun cdv A outer s H vs Q E hr h => ?_)
  · obtain ⟨a, rfl, _⟩ := h
    rfl
  · obtain ⟨a, rfl, q⟩ := h
    exact ⟨_, pss_one (ps_ret pe_bl), q⟩
/-- what isinstance asks of an instance's class -/
structure Isn (K : PySem.W.Frag) (C : Addr) : Prop where
  c1 : PySem.W.findIn K (.ref C) "__class__" = some (some (.builtin "object.__class__"))
  c2 : PySem.W.specialIn K (.builtin "object.__class__") "__get__" = some (some (.builtin "getset_descriptor.__get__"))
  c3 : PySem.W.takesIn K (.builtin "object.__class__") = some true
  c4 : PySem.W.mroIn K C (.type "object") = some true
def spNEq (C : Addr) : Sp := fun vs H Q _ => ∃ (a b : Addr) (o i o2 i2 : Str) (ds es : List Str), vs = [.ref a, .ref b] ∧ NestAt C H a o i ds ∧ NestAt C H b o2 i2 es ∧ SeqAt.shaped (.tuple (ds.map .str)) = true ∧ SeqAt.shaped (.tuple (es.map .str)) = true ∧
  Q (.bl (decide (o = o2 ∧ i = i2 ∧ ds = es))) H
theorem scNEq : FnScope ["self", "other"] ["self", "other"] (defScope sNEq) := ⟨rfl, rfl, rfl, by decide +kernel, rfl, by decide +kernel, by decide +kernel⟩
theorem kit_self (K : PySem.W.Frag) (C : Addr) : PySem.W.kitOne K (.ref C) (.ref C) = some true := by
  unfold PySem.W.kitOne
  rw [if_pos (by simp)]
theorem ok_neq {f : Addr} {fd : FuncData} (F : Fun K "__eq__" "Nest.__eq__" sNEq f fd) (N : Nc K C) (I : Isn K C) (mN : mg "Nest" = some (.ref C)) (Ck : Ck K mg) : FnOk P w K mg base CX0 1 f fd ["self", "other"] (spNEq C) := by
  refine F.ok scNEq (fun vs H Q E h => ?_) (fun cdv A outer s H vs Q E hr h => ?_)
  · obtain ⟨a, b, o, i, o2, i2, ds, es, rfl, _⟩ := h
    rfl
  · obtain ⟨a, b, o, i, o2, i2, ds, es, rfl, ⟨dx, dp, h1, h2⟩, ⟨dy, dq, g1, g2⟩, z1, z2, q⟩ := h
    refine ⟨_, pss_one (ps_ret (pe_and (pe_callB call_isi (by rfl) Ck.isinstance (by decide +kernel) (pa_cons (pv 1) (pa_cons (pe_glob (v := .ref C) (by rfl) mN rfl) pa_nil)))
      (pe_and (pe_cmpR op_eq (pe_fld (pv 0) rfl) (pe_fld (pv 1) rfl) (nomark _))
      (pe_and (pe_cmpR op_eq (pe_fld (pv 0) rfl) (pe_fld (pv 1) rfl) (nomark _))
      (pe_one (pe_cmpR (op_eqD hr.units) (pe_fld (pv 0) rfl) (pe_fld (pv 1) rfl) (nomark _))))))), ?_⟩
    refine ⟨_, rfl, _, _, .ref C, .ref C, true, rfl, .own C, .base (.ins g1 N.cl I.c1 I.c2 I.c3 I.c4), kit_self K C, true, rfl, ?_⟩
    refine iteT ?_
    refine ⟨_, rfl, a, C, dx, _, _, rfl, h1, N.cl, N.nO, nfl_outer _ _ _, _, rfl, b, C, dy, _, _, rfl, g1, N.cl, N.nO, nfl_outer _ _ _, rfl, _, rfl, ?_⟩
    refine ite2 (fun ho => ?_) (fun ho => ?_)
    · have eo : o = o2 := V.str.inj (of_decide_eq_true ho)
      refine ⟨_, rfl, a, C, dx, _, _, rfl, h1, N.cl, N.nI, nfl_inner _ _ _, _, rfl, b, C, dy, _, _, rfl, g1, N.cl, N.nI, nfl_inner _ _ _, rfl, _, rfl, ?_⟩
      refine ite2 (fun hi => ?_) (fun hi => ?_)
      · have ei : i = i2 := V.str.inj (of_decide_eq_true hi)
        refine ⟨_, rfl, a, C, dx, _, _, rfl, h1, N.cl, N.nD, nfl_deeds _ _ _, _, rfl, b, C, dy, _, _, rfl, g1, N.cl, N.nD, nfl_deeds _ _ _, ?_⟩
        refine ⟨.tuple (ds.map .str), .tuple (es.map .str), .tup (SqT.of h2) (dp_strs ds), .tup (SqT.of g2) (dp_strs es), ?_, ?_, ?_⟩
        · exact z1
        · exact z2
        · rw [show PyData.eqv (.tuple (ds.map .str)) (.tuple (es.map .str)) = decide (ds = es) from (by rw [PyData.eqv]; exact eqv_strs ds es)]
          simpa [eo, ei] using q
      · have ei : ¬ i = i2 := fun e => hi (decide_eq_true (by rw [e]))
        simpa [ei] using q
    · have eo : ¬ o = o2 := fun e => ho (decide_eq_true (by rw [e]))
      simpa [eo] using q
end
end Sq
namespace Sq
open PySem L2 TL
abbrev sEdge : Stmt := top 27
abbrev sWalkRow : Stmt := top 28
def edge (b : Nat) : Str := (obs ++ ibs).getD b ""
def walkS (a b : Str) (down : Bool) : Str := a ++ " to " ++ b ++ (if down = true then (" down" : Str) else "")
theorem walk_split {a b : Str} (ha : 32 ∉ tl a) (hb : 32 ∉ tl b) (d : Bool) : Txt.split (walkS a b d) " " = [a, "to", b] ++ (if d = true then [("down" : Str)] else []) := by
  have key : ∀ parts : List Str, parts ≠ [] → (∀ p ∈ parts, 32 ∉ tl p) → walkS a b d = Txt.join " " parts → Txt.split (walkS a b d) " " = parts := fun parts h1 h2 e => by
    rw [e]
    exact split_join (s := 32) (S := []) (by decide +kernel) (by decide +kernel) h1 h2
  have ht : 32 ∉ tl ("to" : Str) := by decide +kernel
  have hd : 32 ∉ tl ("down" : Str) := by decide +kernel
  have e1 : tl (" to " : Str) = 32 :: (tl ("to" : Str) ++ [32]) := by decide +kernel
  have e2 : tl (" down" : Str) = 32 :: tl ("down" : Str) := by decide +kernel
  have e3 : tl (" " : Str) = [32] := by decide +kernel
  refine key _ (by cases d <;> simp) (fun p hp => ?_) (ext_tl ?_)
  · cases d
    · rcases (by simpa using hp : p = a ∨ p = "to" ∨ p = b) with rfl | rfl | rfl <;> assumption
    · rcases (by simpa using hp : p = a ∨ p = "to" ∨ p = b ∨ p = "down") with rfl | rfl | rfl | rfl <;> assumption
  · rw [join_eq, tl_join, e3]
    unfold walkS
    cases d
    · rw [tl_append, tl_append, tl_append, e1]
      simp [joinL]
      rfl
    · rw [tl_append, tl_append, tl_append, e1]
      simp [joinL, e2]
theorem walk_ok {bs : List Str} {a b : Str} (ha : 32 ∉ tl a) (hb : 32 ∉ tl b) (nb : b ≠ "down") (ma : memB bs a = true) (mb : memB bs b = true) (d : Bool) : loopB bs (walkS a b d) = true := by
  unfold loopB cutDown
  rw [walk_split ha hb]
  cases d
  · have e : ([a, "to", b] ++ (if false = true then [("down" : Str)] else []) : List Str) = [a, "to", b] := rfl
    rw [e]
    rw [if_neg (show ¬ ([a, "to", b] : List Str).getLast? = some ("down" : Str) from fun z => nb (Option.some.inj z))]
    simp [loopW, ma, mb]
  · have e : ([a, "to", b] ++ (if true = true then [("down" : Str)] else []) : List Str) = [a, "to", b, "down"] := rfl
    rw [e]
    rw [if_pos (show ([a, "to", b, "down"] : List Str).getLast? = some ("down" : Str) from rfl)]
    show loopW bs [a, "to", b] = true
    simp [loopW, ma, mb]
theorem edge_plain : ∀ a : _root_.Fin 18, 32 ∉ tl (edge a.val) ∧ edge a.val ≠ "down" ∧ memB (obs ++ ibs) (edge a.val) = true ∧ (edge a.val).length ≤ 12 := by decide +kernel
theorem edge_outer : ∀ a : _root_.Fin 12, memB obs (edge a.val) = true := by decide +kernel
def rowOf (a b d : Nat) : Str := walkS (edge a) (edge b) (decide (d = 1))
theorem row_outer {a b : Nat} (d : Nat) (ha : a < 12) (hb : b < 12) : loopB obs (rowOf a b d) = true :=
  walk_ok (edge_plain ⟨a, by omega⟩).1 (edge_plain ⟨b, by omega⟩).1 (edge_plain ⟨b, by omega⟩).2.1 (edge_outer ⟨a, ha⟩) (edge_outer ⟨b, hb⟩) _
theorem row_inner {a b : Nat} (d : Nat) (ha : a < 18) (hb : b < 18) : loopB (obs ++ ibs) (rowOf a b d) = true :=
  walk_ok (edge_plain ⟨a, ha⟩).1 (edge_plain ⟨b, hb⟩).1 (edge_plain ⟨b, hb⟩).2.1 (edge_plain ⟨a, ha⟩).2.2.1 (edge_plain ⟨b, hb⟩).2.2.1 _
theorem str_len_append (x y : Str) : (x ++ y).length = x.length + y.length := by
  rw [len_tl, tl_append, List.length_append, ← len_tl, ← len_tl]
theorem row_len {a b : Nat} (d : Nat) (ha : a < 18) (hb : b < 18) : (rowOf a b d).length ≤ 40 := by
  have h1 : (edge a).length ≤ 12 := (edge_plain ⟨a, ha⟩).2.2.2
  have h2 : (edge b).length ≤ 12 := (edge_plain ⟨b, hb⟩).2.2.2
  unfold rowOf walkS
  rw [str_len_append, str_len_append, str_len_append]
  have h3 : (if decide (d = 1) = true then (" down" : Str) else "").length ≤ 5 := by split <;> decide +kernel
  have h4 : (" to " : Str).length = 4 := by decide +kernel
  omega
section
variable {P : Program} {w : World} {K : PySem.W.Frag} {mg : Str → Option Value} {base : Heap} {fE : Addr} {dE : FuncData}
def spEdge : Sp := fun vs H Q _ => ∃ b : Nat, vs = [.int (b : Int)] ∧ b < 18 ∧ ∀ H', Same H H' → Q (.str (edge b)) H'
theorem scEdge : FnScope ["_law_bound", "_law_head"] ["_law_bound"] (defScope sEdge) := ⟨rfl, rfl, rfl, by decide +kernel, rfl, by decide +kernel, by decide +kernel⟩
theorem ok_edge {f : Addr} {fd : FuncData} (F : Fun K "_law_edge_row" "_law_edge_row" sEdge f fd) (T : Bt mg) : FnOk P w K mg base CX0 1 f fd ["_law_bound"] spEdge := by
  refine F.ok scEdge (fun vs H Q E h => ?_) (fun cdv A outer s H vs Q E hr h => ?_)
  · obtain ⟨b, rfl, _⟩ := h
    rfl
  · obtain ⟨b, rfl, hb, q⟩ := h
    refine ⟨_, pss_cons (ps_if (pt_cmpR op_lt (pv 0) pe_int (nomark _)) (pss_one (ps_ret (pe_ix ix_list (pe_lst (pa_cons pe_str (pa_cons pe_str (pa_cons pe_str pa_nil)))) (pv 0) (fun _ _ => rfl)))) pss_nil)
      (pss_cons (ps_set (i := 1) scEdge.nd rfl (.inl rfl) (pe_ix ix_list (pe_lst (pa_cons pe_str (pa_cons pe_str (pa_cons pe_str (pa_cons pe_str (pa_cons pe_str pa_nil)))))) (pe_op op_sub (pe_op op_fdiv (pv 0) pe_int) pe_int) (fun _ _ => rfl)))
      (pss_one (ps_ret (pe_op op_add_str (pv 1) (pe_ix ix_list (pe_lst (pa_cons pe_str (pa_cons pe_str (pa_cons pe_str pa_nil)))) (pe_op op_mod (pe_callTy call_int1 (by rfl) T.int (by decide +kernel) (pa_cons (pv 0) pa_nil)) pe_int) (fun _ _ => rfl)))))), ?_⟩
    refine ⟨_, rfl, _, _, rfl, rfl, _, rfl, ?_⟩
    have run3 : ∀ (b : Nat) (y : Str), edge b = y → (∀ H', Same H H' → Q (.str (edge b)) H') → ∀ H', Same H H' → Q (.str y) H' := fun b y e q H' sm => e ▸ q H' sm
    have alt : b = 0 ∨ b = 1 ∨ b = 2 ∨ b = 3 ∨ b = 4 ∨ b = 5 ∨ b = 6 ∨ b = 7 ∨ b = 8 ∨ b = 9 ∨ b = 10 ∨ b = 11 ∨ b = 12 ∨ b = 13 ∨ b = 14 ∨ b = 15 ∨ b = 16 ∨ b = 17 := by omega
    rcases alt with rfl | rfl | rfl | rfl | rfl | rfl | rfl | rfl | rfl | rfl | rfl | rfl | rfl | rfl | rfl | rfl | rfl | rfl
    all_goals
      first
      | (refine ite2 (fun _ => ?_) (fun n => absurd (by decide) n)
         refine ⟨by decide, fun p np => ⟨_, rfl, p, _, _, _, rfl, rfl, SqL.of upd_same, rfl, ?_⟩⟩
         exact run3 _ _ (by decide +kernel) q _ (same_new np))
      | (refine ite2 (fun y => absurd y (by decide)) (fun _ => ?_)
         refine ⟨by decide, fun p np => ⟨_, rfl, _, _, rfl, rfl, ⟨by decide, by decide⟩, _, _, rfl, rfl, p, _, _, _, rfl, rfl, SqL.of upd_same, rfl, ?_⟩⟩
         refine ⟨_, rfl, by decide, fun p2 np2 => ⟨_, rfl, .inl ⟨_, rfl, _, _, rfl, rfl, (by show (0 : Int) < 3; decide), p2, _, _, _, rfl, rfl, SqL.of upd_same, rfl, _, _, rfl, rfl, (by decide +kernel), ?_⟩⟩⟩
         exact run3 _ _ (by decide +kernel) q _ ((same_new np).trans (same_new np2)))
end
end Sq
namespace Sq
open PySem L2 TL
section
variable {P : Program} {w : World} {K : PySem.W.Frag} {mg : Str → Option Value} {base : Heap} {fE : Addr} {dE : FuncData}
def spWalkRow (K : PySem.W.Frag) : Sp := fun vs H Q _ => ∃ (t : Addr) (a b d : Nat), vs = [.ref t] ∧ SqT K H t [.int (a : Int), .int (b : Int), .int (d : Int)] ∧ a < 18 ∧ b < 18 ∧ ∀ H', Same H H' → Q (.str (rowOf a b d)) H'
theorem scWalkRow : FnScope ["_law_walk"] ["_law_walk"] (defScope sWalkRow) := ⟨rfl, rfl, rfl, by decide +kernel, rfl, by decide +kernel, by decide +kernel⟩
theorem ok_walkrow {f : Addr} {fd : FuncData} (F : Fun K "_law_walk_row" "_law_walk_row" sWalkRow f fd) (GE : FnOk P w K mg base CX0 1 fE dE ["_law_bound"] spEdge) (bE : Binds K dE ["_law_bound"] []) (kE : PySem.W.keepIn K (.ref fE) = true) (mE : mg "_law_edge_row" = some (.ref fE)) :
    FnOk P w K mg base CX0 2 f fd ["_law_walk"] (spWalkRow K) := by
  refine F.ok scWalkRow (fun vs H Q E h => ?_) (fun cdv A outer s H vs Q E hr h => ?_)
  · obtain ⟨t, a, b, d, rfl, _⟩ := h
    rfl
  · obtain ⟨t, a, b, d, rfl, ht, ha, hb, q⟩ := h
    have la : (edge a).length ≤ 12 := (edge_plain ⟨a, ha⟩).2.2.2
    have lb : (edge b).length ≤ 12 := (edge_plain ⟨b, hb⟩).2.2.2
    have l4 : (" to " : Str).length = 4 := by decide +kernel
    have l5 : (" down" : Str).length = 5 := by decide +kernel
    have l0 : ("" : Str).length = 0 := by decide +kernel
    have big : 100 ≤ sizeLine := by decide
    refine ⟨_, pss_one (ps_ret (pe_op op_add_str (pe_op op_add_str (pe_op op_add_str (pe_call GE hr (by rfl) mE kE bE .nil pass0 (pa_cons (pe_ix ix_tup (pv 0) pe_int (fun _ _ => rfl)) pa_nil)) pe_str)
        (pe_call GE hr (by rfl) mE kE bE .nil pass0 (pa_cons (pe_ix ix_tup (pv 0) pe_int (fun _ _ => rfl)) pa_nil)))
        (pe_ifExp (pt_cmpR op_eq (pe_ix ix_tup (pv 0) pe_int (fun _ _ => rfl)) pe_int (nomark _)) pe_str pe_str))), ?_⟩
    refine ⟨_, rfl, t, _, 0, _, rfl, rfl, ht, rfl, a, rfl, ha, fun H1 s1 => ?_⟩
    refine ⟨_, _, rfl, rfl, by omega, ?_⟩
    refine ⟨_, rfl, t, _, 1, _, rfl, rfl, ht.ext s1, rfl, b, rfl, hb, fun H2 s2 => ?_⟩
    have e1 : (edge a ++ (" to " : Str)).length = (edge a).length + (" to " : Str).length := str_len_append _ _
    have e2 : (edge a ++ (" to " : Str) ++ edge b).length = (edge a ++ (" to " : Str)).length + (edge b).length := str_len_append _ _
    have sm : Same H H2 := s1.trans s2
    refine ⟨_, _, rfl, rfl, by omega, ?_⟩
    refine ⟨_, rfl, t, _, 2, _, rfl, rfl, ht.ext sm, rfl, rfl, _, rfl, ?_⟩
    have z := q H2 sm
    unfold rowOf walkS at z
    refine ite2 (fun h1 => ?_) (fun h1 => ?_)
    · have hd : d = 1 := Int.ofNat.inj (V.int.inj (of_decide_eq_true h1))
      refine ⟨_, _, rfl, rfl, by omega, ?_⟩
      rw [if_pos (decide_eq_true hd)] at z
      exact z
    · have hd : ¬ d = 1 := fun e => h1 (decide_eq_true (by rw [e]; rfl))
      refine ⟨_, _, rfl, rfl, by omega, ?_⟩
      rw [if_neg (fun e => hd (of_decide_eq_true e))] at z
      exact z
end
end Sq
namespace Sq
open PySem L2 TL
abbrev sTaken : Stmt := top 29
/-- the texts of a nest's loops -/
structure RowsOk (f s : Str) : Prop where
  lf : f.length ≤ 40
  ls : s.length ≤ 40
  cf : ∀ c ∈ f.cps.toList, c < 16 ^ 8
  cs : ∀ c ∈ s.cps.toList, c < 16 ^ 8
  of : loopB obs f = true
  os : loopB (obs ++ ibs) s = true
def dN (f s : Str) : PyData := .list [.str f, .str s, .tuple [], .int 0]
theorem dN_show (f s : Str) : (dN f s).showable = true := by
  simp [dN, PyData.showable, PyData.showableAll]
theorem dN_dict (f s : Str) : (dN f s).hasDict = false := by
  simp [dN, PyData.hasDict, PyData.hasDictAll]
theorem dN_depth (f s : Str) : (dN f s).depth ≤ 20 := by
  simp [dN, PyData.depth, PyData.depthAll]
theorem dN_len {f s : Str} (h : RowsOk f s) : (dN f s).shown.length ≤ sizeLine := by
  have h1 := StrLaws.reprText_len f h.cf
  have h2 := StrLaws.reprText_len s h.cs
  have l1 := h.lf
  have l2 := h.ls
  simp only [dN, PyData.shown, PyData.shownAll, listText, textFrom]
  simp only [str_len_append]
  have e1 : (", " : Str).length = 2 := by decide +kernel
  have e2 : ("[" : Str).length = 1 := by decide +kernel
  have e3 : ("]" : Str).length = 1 := by decide +kernel
  have e4 : (tupleText []).length = 2 := by decide +kernel
  have big : 2000 ≤ sizeLine := by decide
  have e5 : (Str.ofString (toString (0 : Int))).length = 1 := by decide +kernel
  have e6 : (Str.ofString (if 0 > 0 then ", " else "")).length ≤ 2 := by decide +kernel
  have e7 : (Str.ofString (if 0 + 1 > 0 then ", " else "")).length ≤ 2 := by decide +kernel
  have e8 : (Str.ofString (if 0 + 1 + 1 > 0 then ", " else "")).length ≤ 2 := by decide +kernel
  have e9 : (Str.ofString (if 0 + 1 + 1 + 1 > 0 then ", " else "")).length ≤ 2 := by decide +kernel
  omega
section
variable {C x dx : Addr} {H : Hp} {f s : Str} {R : Hp → Prop} {E : XK}
theorem made_pos (nx : H x = none) (ndx : H dx = none) (_ : dx ≠ x) (h : RowsOk f s) (q : ∀ H', Same H H' → NestAt C H' x f s [] → R H') :
    spMade C [.ref x, .str f, .str s] (upd (upd H dx (.own x)) x (.ins C dx [])) (fun v H2 => v = .non ∧ R H2) E := by
  have big : 100 ≤ sizeLine := by decide
  have l1 := h.lf
  have l2 := h.ls
  refine ⟨[.ref x, .str f, .str s], [], rfl, rfl, Nat.zero_le _, fun p np => ?_⟩
  have npx : p ≠ x := fun e => by rw [e, upd_same] at np; cases np
  refine ⟨x, dx, p, f, s, rfl, by rw [upd_ne npx.symm]; exact upd_same, upd_same, by omega, by omega, h.of, h.os, fun H' hx off => ⟨rfl, q H' (fun b o e => ?_) ⟨dx, p, hx, off p _ npx upd_same⟩⟩⟩
  have nbx : b ≠ x := ne_of_none e nx
  have nbd : b ≠ dx := ne_of_none e ndx
  refine off b o nbx ?_
  have e1 : (upd (upd H dx (.own x)) x (.ins C dx [])) b = some o := by rw [upd_ne nbx, upd_ne nbd]; exact e
  rw [upd_ne (ne_of_none e1 np)]
  exact e1
theorem made_kw (nx : H x = none) (ndx : H dx = none) (_ : dx ≠ x) (h : RowsOk f s) (q : ∀ H', Same H H' → NestAt C H' x f s [] → R H') :
    (fun vs H Q E => ∃ x v1 v2, vs = [x, v1, v2] ∧ ∀ p, H p = none → spInit0 C [x, v2, v1, .ref p] (upd H p (.tup [])) Q E) [.ref x, .str s, .str f] (upd (upd H dx (.own x)) x (.ins C dx [])) (fun v H2 => v = .non ∧ R H2) E0 := by
  refine ⟨_, _, _, rfl, fun p np => ?_⟩
  have big : 100 ≤ sizeLine := by decide
  have l1 := h.lf
  have l2 := h.ls
  have npx : p ≠ x := fun e => by rw [e, upd_same] at np; cases np
  refine ⟨x, dx, p, f, s, rfl, by rw [upd_ne npx.symm]; exact upd_same, upd_same, by omega, by omega, h.of, h.os, fun H' hx off => ⟨rfl, q H' (fun b o e => ?_) ⟨dx, p, hx, off p _ npx upd_same⟩⟩⟩
  have nbx : b ≠ x := ne_of_none e nx
  have nbd : b ≠ dx := ne_of_none e ndx
  refine off b o nbx ?_
  have e1 : (upd (upd H dx (.own x)) x (.ins C dx [])) b = some o := by rw [upd_ne nbx, upd_ne nbd]; exact e
  rw [upd_ne (ne_of_none e1 np)]
  exact e1
end

theorem sp_eta (sp : Sp) : (fun vs H Q E => sp (vs ++ []) H Q E) = sp := by
  funext vs H Q E
  rw [List.append_nil]
theorem FnOk.asR {P : Program} {w : World} {K : PySem.W.Frag} {mg : Str → Option Value} {base : Heap} {CX : CXT} {k : Nat} {f : Addr} {fd : FuncData} {ps : List Str} {sp : Sp} (F : FnOk P w K mg base CX k f fd ps sp) (b : Binds K fd ps []) : FnR P w K mg base CX k f sp := by
  have z := FnOk.raw F b (dvs := []) .nil
  rw [sp_eta] at z
  exact z
/-- all that is known of the class Nest -/
structure NestK (P : Program) (w : World) (K : PySem.W.Frag) (mg : Str → Option Value) (base : Heap) (C : Addr) : Prop where
  nc : Nc K C
  mN : mg "Nest" = some (.ref C)
  mks : ∃ fi, Mk K C fi ∧ FnR P w K mg base CX0 4 fi (spMade C) ∧ FnK2 P w K mg base 4 fi "inner" "outer" (fun vs H Q E => ∃ x v1 v2, vs = [x, v1, v2] ∧ ∀ p, H p = none → spInit0 C [x, v2, v1, .ref p] (upd H p (.tup [])) Q E)
  p1 : ∃ p g d, PropOf K C "outer" p g ∧ FnOk P w K mg base CX0 1 g d ["self"] (getSp C "_outer") ∧ Binds K d ["self"] []
  p2 : ∃ p g d, PropOf K C "inner" p g ∧ FnOk P w K mg base CX0 1 g d ["self"] (getSp C "_inner") ∧ Binds K d ["self"] []
  p3 : ∃ p g d, PropOf K C "deeds" p g ∧ FnOk P w K mg base CX0 1 g d ["self"] (getSp C "_deeds") ∧ Binds K d ["self"] []
  len : ∃ f, PySem.W.findIn K (.ref C) "__len__" = some (some (.ref f)) ∧ PySem.W.isFn K (.ref f) = true ∧ FnR P w K mg base CX0 1 f (spNLen C)
  bool : ∃ f, PySem.W.findIn K (.ref C) "__bool__" = some (some (.ref f)) ∧ PySem.W.isFn K (.ref f) = true ∧ FnR P w K mg base CX0 1 f (spNBool C)
  eq : ∃ f, PySem.W.findIn K (.ref C) "__eq__" = some (some (.ref f)) ∧ PySem.W.isFn K (.ref f) = true ∧ FnR P w K mg base CX0 1 f (spNEq C)
  ne : PySem.W.findIn K (.ref C) "__ne__" = some (some (.builtin "object.__ne__"))
  ob : PySem.W.subIn K (.ref C) (.type "object") = some true
def spTaken : Sp := fun vs H Q _ => ∃ f s : Str, vs = [.str f, .str s] ∧ RowsOk f s ∧ ∀ H', Same H H' → Q (.bl true) H'
section
variable {P : Program} {w : World} {K : PySem.W.Frag} {mg : Str → Option Value} {base : Heap} {C : Addr}
theorem scTaken : FnScope ["_law_first", "_law_second", "_law_one", "_law_two"] ["_law_first", "_law_second"] (defScope sTaken) := ⟨rfl, rfl, rfl, by decide +kernel, rfl, by decide +kernel, by decide +kernel⟩
theorem ok_taken {f : Addr} {fd : FuncData} (F : Fun K "_law_taken" "_law_taken" sTaken f fd) (b : Binds K fd ["_law_first", "_law_second"] []) (T : Bt mg) (hre : mg "repr" = none) (hbo : mg "bool" = none) (NK : NestK P w K mg base C) : FnG P w K mg base 6 f spTaken := by
  obtain ⟨fi, mk, GR, GK⟩ := NK.mks
  obtain ⟨p1, g1, d1, P1, G1, B1⟩ := NK.p1
  obtain ⟨p2, g2, d2, P2, G2, B2⟩ := NK.p2
  obtain ⟨p3, g3, d3, P3, G3, B3⟩ := NK.p3
  obtain ⟨fl, hl1, hl2, GL⟩ := NK.len
  obtain ⟨fb, hb1, hb2, GB⟩ := NK.bool
  obtain ⟨fe, he1, he2, GE⟩ := NK.eq
  refine FnG.of F scTaken b (fun vs H Q h => ?_) (fun cdv A outer s H vs Q hg hr h => ?_)
  · obtain ⟨f, s, rfl, _⟩ := h
    rfl
  · obtain ⟨f, s, rfl, hR, q⟩ := h
    have hr5 : Room 5 _ := hr
    have hr2 := hr.mono (show 2 ≤ 5 by decide)
    have hr3 := hr.mono (show 3 ≤ 5 by decide)
    have hr1 := hr.mono (show 1 ≤ 5 by decide)
    refine ⟨_, pss_cons (ps_par (i := 2) (j := 3) (by rfl) scTaken.nd rfl rfl (by decide) rfl rfl (pa_cons (StX.pe_makeR mk GR hr5 (by rfl) NK.mN pass0 (pa_cons (pv 0) (pa_cons (pv 1) pa_nil)))
        (pa_cons (pe_makeK2 mk GK hr5 (by rfl) NK.mN (pk_cons (pv 1) (pk_cons (pv 0) pk_nil))) pa_nil)) (by rfl))
      (pss_cons (ps_if (pt_cmpR op_ne (pe_callB (call_repr hg hr) (by rfl) hre (by decide +kernel) (pa_cons (pe_lst (pa_cons (pe_prop (pv 2) NK.nc.cl P1 G1 hr2 B1 .nil pass0 rfl) (pa_cons (pe_prop (pv 2) NK.nc.cl P2 G2 hr2 B2 .nil pass0 rfl)
          (pa_cons (pe_prop (pv 2) NK.nc.cl P3 G3 hr2 B3 .nil pass0 rfl) (pa_cons (pe_callB (call_lenO hl1 hl2 GL hr2) (by rfl) T.len PySem.boot_len (pa_cons (pv 2) pa_nil)) pa_nil))))) pa_nil))
          (pe_callB (call_repr hg hr) (by rfl) hre (by decide +kernel) (pa_cons (pe_lst (pa_cons (pv 0) (pa_cons (pv 1) (pa_cons (pe_tup pa_nil) (pa_cons pe_int pa_nil))))) pa_nil)) (nomark _)) (pss_one (ps_ret pe_bl)) pss_nil)
      (pss_cons (ps_if (pt_cmpR op_ne (pe_callB (call_repr hg hr) (by rfl) hre (by decide +kernel) (pa_cons (pe_lst (pa_cons (pe_prop (pv 3) NK.nc.cl P1 G1 hr2 B1 .nil pass0 rfl) (pa_cons (pe_prop (pv 3) NK.nc.cl P2 G2 hr2 B2 .nil pass0 rfl)
          (pa_cons (pe_prop (pv 3) NK.nc.cl P3 G3 hr2 B3 .nil pass0 rfl) (pa_cons (pe_callB (call_lenO hl1 hl2 GL hr2) (by rfl) T.len PySem.boot_len (pa_cons (pv 3) pa_nil)) pa_nil))))) pa_nil))
          (pe_callB (call_repr hg hr) (by rfl) hre (by decide +kernel) (pa_cons (pe_lst (pa_cons (pv 0) (pa_cons (pv 1) (pa_cons (pe_tup pa_nil) (pa_cons pe_int pa_nil))))) pa_nil)) (nomark _)) (pss_one (ps_ret pe_bl)) pss_nil)
      (pss_one (ps_ret (pe_and (pe_callTy (call_boolO hb1 hb2 GB hr3) (by rfl) hbo (by decide +kernel) (pa_cons (pv 2) pa_nil))
        (pe_and (pe_cmpR (op_eqO he1 he2 GE hr1) (pv 2) (pv 3) (nomark _)) (pe_one (pe_not (pe_cmpR (op_neO NK.ne NK.ob he1 he2 GE hr2) (pv 2) (pv 3) (nomark _)))))))))), ?_⟩
    refine ⟨_, rfl, _, rfl, fun x dx nx ndx nex => made_pos nx ndx nex hR fun H1 s1 n1 => ?_⟩
    refine ⟨_, rfl, _, rfl, _, _, rfl, fun y dy ny ndy ney => made_kw ny ndy ney hR fun H2 s2 n2 => ?_⟩
    obtain ⟨dx', dp, x1, x2⟩ := n1.ext s2
    obtain ⟨dy', dq, y1, y2⟩ := id n2
    have n1' : NestAt C H2 x f s [] := ⟨dx', dp, x1, x2⟩
    have sm : Same H H2 := s1.trans s2
    refine ⟨_, _, rfl, ?_⟩
    refine ⟨_, rfl, x, _, _, rfl, x1, x, _, _, .str f, rfl, x1, nfl_outer _ _ _, ?_⟩
    refine ⟨_, rfl, x, _, _, rfl, x1, x, _, _, .str s, rfl, x1, nfl_inner _ _ _, ?_⟩
    refine ⟨_, rfl, x, _, _, rfl, x1, x, _, _, .ref dp, rfl, x1, nfl_deeds _ _ _, ?_⟩
    refine ⟨_, rfl, x, _, _, rfl, x1, x, f, s, [], rfl, n1', 0, rfl, by decide, by decide, ?_⟩
    refine ⟨(by show 4 ≤ sizeLine; decide), fun a1 an1 => ?_⟩
    refine ⟨a1, dN f s, rfl, .lst (SqL.of upd_same) (.cons (.str f) (.cons (.str s) (.cons (.tup (ds := []) (SqT.of (same_new an1 _ _ x2)) .nil) (.cons (.int 0) .nil)))), dN_show f s, dN_dict f s, dN_depth f s, dN_len hR, ?_⟩
    refine ⟨_, rfl, _, rfl, Nat.zero_le _, fun t1 tn1 => ?_⟩
    refine ⟨(by show 4 ≤ sizeLine; decide), fun c1 cn1 => ?_⟩
    refine ⟨c1, dN f s, rfl, .lst (SqL.of upd_same) (.cons (.str f) (.cons (.str s) (.cons (.tup (ds := []) (SqT.of (same_new cn1 _ _ upd_same)) .nil) (.cons (.int 0) .nil)))), dN_show f s, dN_dict f s, dN_depth f s, dN_len hR, ?_⟩
    refine ⟨rfl, _, rfl, ?_⟩
    refine iteNS rfl ?_
    have k1 := ((same_new an1).trans (same_new tn1)).trans (same_new (o := .lst [.str f, .str s, .ref t1, .int 0]) cn1)
    have y1' := k1 _ _ y1
    have y2' := k1 _ _ y2
    have n2' := n2.ext k1
    refine ⟨_, rfl, y, _, _, rfl, y1', y, _, _, .str f, rfl, y1', nfl_outer _ _ _, ?_⟩
    refine ⟨_, rfl, y, _, _, rfl, y1', y, _, _, .str s, rfl, y1', nfl_inner _ _ _, ?_⟩
    refine ⟨_, rfl, y, _, _, rfl, y1', y, _, _, .ref dq, rfl, y1', nfl_deeds _ _ _, ?_⟩
    refine ⟨_, rfl, y, _, _, rfl, y1', y, f, s, [], rfl, n2', 0, rfl, by decide, by decide, ?_⟩
    refine ⟨(by show 4 ≤ sizeLine; decide), fun a2 an2 => ?_⟩
    refine ⟨a2, dN f s, rfl, .lst (SqL.of upd_same) (.cons (.str f) (.cons (.str s) (.cons (.tup (ds := []) (SqT.of (same_new an2 _ _ y2')) .nil) (.cons (.int 0) .nil)))), dN_show f s, dN_dict f s, dN_depth f s, dN_len hR, ?_⟩
    refine ⟨_, rfl, _, rfl, Nat.zero_le _, fun t2 tn2 => ?_⟩
    refine ⟨(by show 4 ≤ sizeLine; decide), fun c2 cn2 => ?_⟩
    refine ⟨c2, dN f s, rfl, .lst (SqL.of upd_same) (.cons (.str f) (.cons (.str s) (.cons (.tup (ds := []) (SqT.of (same_new cn2 _ _ upd_same)) .nil) (.cons (.int 0) .nil)))), dN_show f s, dN_dict f s, dN_depth f s, dN_len hR, ?_⟩
    refine ⟨rfl, _, rfl, ?_⟩
    refine iteNS rfl ?_
    have k2 := ((same_new an2).trans (same_new tn2)).trans (same_new (o := .lst [.str f, .str s, .ref t2, .int 0]) cn2)
    have fx := n1'.ext (k1.trans k2)
    have fy := n2.ext (k1.trans k2)
    have x3 := k2 _ _ (k1 _ _ x1)
    have y3 := k2 _ _ y1'
    have sh : SeqAt.shaped (.tuple ([].map PyData.str)) = true := by decide +kernel
    refine ⟨_, rfl, x, _, _, rfl, x3, x, rfl, true, rfl, true, rfl, ?_⟩
    refine iteT ?_
    refine ⟨_, rfl, _, rfl, x, y, _, _, _, _, rfl, rfl, x3, y3, x, y, f, s, f, s, [], [], rfl, fx, fy, sh, sh, _, rfl, _, rfl, ?_⟩
    refine ite2 (fun _ => ?_) (fun n => absurd (by simp) n)
    refine ⟨_, rfl, _, rfl, x, y, _, _, _, _, rfl, rfl, x3, y3, x, y, f, s, f, s, [], [], rfl, fx, fy, sh, sh, _, rfl, _, rfl, ?_⟩
    have z := q _ (sm.trans (k1.trans k2))
    simpa using z
end
end Sq
namespace Sq
open PySem L2 TL
abbrev sAnyR : Stmt := top 30
abbrev sLaw : Stmt := top 31
theorem edge_codes : ∀ a : _root_.Fin 18, ∀ c ∈ (edge a.val).cps.toList, c < 128 := by decide +kernel
theorem row_codes {a b : Nat} (d : Nat) (ha : a < 18) (hb : b < 18) : ∀ c ∈ (rowOf a b d).cps.toList, c < 16 ^ 8 := by
  intro c hc
  have hc' : c ∈ tl (rowOf a b d) := hc
  unfold rowOf walkS at hc'
  rw [tl_append, tl_append, tl_append, List.mem_append, List.mem_append, List.mem_append] at hc'
  have k1 : ∀ c ∈ tl (" to " : Str), c < 128 := by decide +kernel
  have k2 : ∀ c ∈ tl (if decide (d = 1) = true then (" down" : Str) else ""), c < 128 := by split <;> decide +kernel
  have k3 : ∀ c ∈ tl (edge a), c < 128 := edge_codes ⟨a, ha⟩
  have k4 : ∀ c ∈ tl (edge b), c < 128 := edge_codes ⟨b, hb⟩
  have lt : c < 128 := by
    rcases hc' with ((h | h) | h) | h
    · exact k3 c h
    · exact k1 c h
    · exact k4 c h
    · exact k2 c h
  exact Nat.lt_trans lt (by decide)
theorem rows_ok {a b a2 b2 : Nat} (d d2 : Nat) (ha : a < 12) (hb : b < 12) (ha2 : a2 < 18) (hb2 : b2 < 18) : RowsOk (rowOf a b d) (rowOf a2 b2 d2) :=
  ⟨row_len d (by omega) (by omega), row_len d2 ha2 hb2, row_codes d (by omega) (by omega), row_codes d2 ha2 hb2, row_outer d ha hb, row_inner d2 ha2 hb2⟩
/-- a bag stands at p -/
def BagAt (H : Hp) (p : Addr) : Prop := ∃ m d c : Int, H p = some (.lst [.int m, .int d, .int c])
theorem Off.trans {p : Addr} {H H1 H2 : Hp} (a : Off p H H1) (b : Off p H1 H2) : Off p H H2 := fun c o n h => b c o n (a c o n h)
theorem Same.off {p : Addr} {H H1 : Hp} (a : Same H H1) : Off p H H1 := fun c o _ h => a c o h
theorem tup_off {K : PySem.W.Frag} {H H' : Hp} {p t : Addr} {xs : List V} (e : Off p H H') (n : t ≠ p) (h : H t = some (.tup xs)) : SqT K H' t xs := SqT.of (e t _ n h)
section
variable {P : Program} {w : World} {K : PySem.W.Frag} {mg : Str → Option Value} {base : Heap} {fT fW fN : Addr} {dT dW dN' : FuncData}
def spAnyR : Sp := fun vs H Q _ => ∃ p : Addr, vs = [.ref p] ∧ BagAt H p ∧ ∀ H', BagAt H' p → Off p H H' → Q (.bl true) H'
theorem scAnyR : FnScope ["_law_bag_here", "_law_first", "_law_second"] ["_law_bag_here"] (defScope sAnyR) := ⟨rfl, rfl, rfl, by decide +kernel, rfl, by decide +kernel, by decide +kernel⟩
theorem ok_anyR {f : Addr} {fd : FuncData} (F : Fun K "_law_any_right" "_law_any_right" sAnyR f fd) (b : Binds K fd ["_law_bag_here"] [])
    (GT : FnOk P w K mg base CX0 1 fT dT ["_law_bag_here", "_law_many"] spTake) (bT : Binds K dT ["_law_bag_here", "_law_many"] []) (kT : PySem.W.keepIn K (.ref fT) = true) (mT : mg "_law_take" = some (.ref fT))
    (GW : FnOk P w K mg base CX0 2 fW dW ["_law_walk"] (spWalkRow K)) (bW : Binds K dW ["_law_walk"] []) (kW : PySem.W.keepIn K (.ref fW) = true) (mW : mg "_law_walk_row" = some (.ref fW))
    (GN : FnG P w K mg base 6 fN spTaken) (kN : PySem.W.keepIn K (.ref fN) = true) (mN : mg "_law_taken" = some (.ref fN)) : FnG P w K mg base 7 f spAnyR := by
  refine FnG.of F scAnyR b (fun vs H Q h => ?_) (fun cdv A outer s H vs Q hg hr h => ?_)
  · obtain ⟨p, rfl, _⟩ := h
    rfl
  · obtain ⟨p, rfl, ⟨m0, d0, c0, hp0⟩, q⟩ := h
    have hr1 := hr.mono (show 1 ≤ 6 by decide)
    have hr2 := hr.mono (show 2 ≤ 6 by decide)
    refine ⟨_, pss_cons (ps_set (i := 1) scAnyR.nd rfl (.inl rfl) (pe_tup (pa_cons (pe_call GT hr1 (by rfl) mT kT bT .nil pass0 (pa_cons (pv 0) (pa_cons pe_int pa_nil)))
        (pa_cons (pe_call GT hr1 (by rfl) mT kT bT .nil pass0 (pa_cons (pv 0) (pa_cons pe_int pa_nil))) (pa_cons (pe_call GT hr1 (by rfl) mT kT bT .nil pass0 (pa_cons (pv 0) (pa_cons pe_int pa_nil))) pa_nil)))))
      (pss_cons (ps_set (i := 2) scAnyR.nd rfl (.inl rfl) (pe_tup (pa_cons (pe_call GT hr1 (by rfl) mT kT bT .nil pass0 (pa_cons (pv 0) (pa_cons pe_int pa_nil)))
        (pa_cons (pe_call GT hr1 (by rfl) mT kT bT .nil pass0 (pa_cons (pv 0) (pa_cons pe_int pa_nil))) (pa_cons (pe_call GT hr1 (by rfl) mT kT bT .nil pass0 (pa_cons (pv 0) (pa_cons pe_int pa_nil))) pa_nil)))))
      (pss_one (ps_ret (pe_callG GN hg hr (by rfl) mN kN (pa_cons (pe_call GW hr2 (by rfl) mW kW bW .nil pass0 (pa_cons (pv 1) pa_nil)) (pa_cons (pe_call GW hr2 (by rfl) mW kW bW .nil pass0 (pa_cons (pv 2) pa_nil)) pa_nil)))))), ?_⟩
    refine ⟨_, rfl, p, m0, d0, c0, 12, rfl, hp0, by decide, by decide, fun a m1 d1 c1 H1 an al hp1 o1 => ?_⟩
    obtain ⟨a, rfl⟩ := Int.eq_ofNat_of_zero_le an
    have al : a < 12 := by omega
    refine ⟨_, rfl, p, m1, d1, c1, 12, rfl, hp1, by decide, by decide, fun b m2 d2 c2 H2 bn bl hp2 o2 => ?_⟩
    obtain ⟨b, rfl⟩ := Int.eq_ofNat_of_zero_le bn
    have bl : b < 12 := by omega
    refine ⟨_, rfl, p, m2, d2, c2, 2, rfl, hp2, by decide, by decide, fun d m3 d3 c3 H3 dn dl hp3 o3 => ?_⟩
    obtain ⟨d, rfl⟩ := Int.eq_ofNat_of_zero_le dn
    have dl : d < 2 := by omega
    refine ⟨(by show 3 ≤ sizeLine; decide), fun t nt => ?_⟩
    have ntp : t ≠ p := fun e => by rw [e, hp3] at nt; cases nt
    have o34 : Off p H (upd H3 t (.tup [.int (a : Int), .int (b : Int), .int (d : Int)])) := ((o1.trans o2).trans o3).trans (Same.off (same_new nt))
    have hp4 := same_new (o := .tup [.int (a : Int), .int (b : Int), .int (d : Int)]) nt _ _ hp3
    refine ⟨_, rfl, p, m3, d3, c3, 18, rfl, hp4, by decide, by decide, fun a2 m5 d5 c5 H5 a2n a2l hp5 o5 => ?_⟩
    obtain ⟨a2, rfl⟩ := Int.eq_ofNat_of_zero_le a2n
    have a2l : a2 < 18 := by omega
    refine ⟨_, rfl, p, m5, d5, c5, 18, rfl, hp5, by decide, by decide, fun b2 m6 d6 c6 H6 b2n b2l hp6 o6 => ?_⟩
    obtain ⟨b2, rfl⟩ := Int.eq_ofNat_of_zero_le b2n
    have b2l : b2 < 18 := by omega
    refine ⟨_, rfl, p, m6, d6, c6, 2, rfl, hp6, by decide, by decide, fun e2 m7 d7 c7 H7 e2n e2l hp7 o7 => ?_⟩
    obtain ⟨e2, rfl⟩ := Int.eq_ofNat_of_zero_le e2n
    have e2l : e2 < 2 := by omega
    refine ⟨(by show 3 ≤ sizeLine; decide), fun u nu => ?_⟩
    have ht7 : H7 t = some (.tup [.int (a : Int), .int (b : Int), .int (d : Int)]) := o7 t _ ntp (o6 t _ ntp (o5 t _ ntp upd_same))
    have s8 : Same H7 (upd H7 u (.tup [.int (a2 : Int), .int (b2 : Int), .int (e2 : Int)])) := same_new nu
    refine ⟨_, rfl, t, a, b, d, rfl, SqT.of (s8 _ _ ht7), by omega, by omega, fun H9 s9 => ?_⟩
    refine ⟨_, rfl, u, a2, b2, e2, rfl, SqT.of (s9 _ _ upd_same), a2l, b2l, fun H10 s10 => ?_⟩
    refine ⟨_, _, rfl, rows_ok d e2 al bl a2l b2l, fun H11 s11 => ?_⟩
    have sm : Same H7 H11 := ((s8.trans s9).trans s10).trans s11
    exact q H11 ⟨m7, d7, c7, sm _ _ hp7⟩ (((o34.trans o5).trans (o6.trans o7)).trans (Same.off sm))
end
end Sq
namespace Sq
open PySem L2 TL
section
variable {P : Program} {w : World} {K : PySem.W.Frag} {mg : Str → Option Value} {base : Heap} {fT fW fN fB fU fA : Addr} {dT dW dB dU : FuncData}
def spLaw (K : PySem.W.Frag) : Sp := fun vs H Q _ => ∃ (a : Addr) (ns : List Int), vs = [.ref a] ∧ SqL K H a (ns.map V.int) ∧ ns.length ≤ 63 ∧ ∀ H', Q (.bl true) H'
theorem scLaw : FnScope ["_law_script", "_law_start", "_law_bound", "_law_some", "_law_other", "_law_k", "_law_bag_here", "_law_turn"] ["_law_script"] (defScope sLaw) := ⟨rfl, rfl, rfl, by decide +kernel, rfl, by decide +kernel, by decide +kernel⟩
theorem ok_law {f : Addr} {fd : FuncData} (F : Fun K "law" "law" sLaw f fd) (b : Binds K fd ["_law_script"] []) (T : Bt mg) (hmax : mg "max" = none) (hmin : mg "min" = none) (hall : mg "all" = none)
    (GT : FnOk P w K mg base CX0 1 fT dT ["_law_bag_here", "_law_many"] spTake) (bT : Binds K dT ["_law_bag_here", "_law_many"] []) (kT : PySem.W.keepIn K (.ref fT) = true) (mT : mg "_law_take" = some (.ref fT))
    (GW : FnOk P w K mg base CX0 2 fW dW ["_law_walk"] (spWalkRow K)) (bW : Binds K dW ["_law_walk"] []) (kW : PySem.W.keepIn K (.ref fW) = true) (mW : mg "_law_walk_row" = some (.ref fW))
    (GN : FnG P w K mg base 6 fN spTaken) (kN : PySem.W.keepIn K (.ref fN) = true) (mN : mg "_law_taken" = some (.ref fN))
    (GB : FnOk P w K mg base CX0 1 fB dB ["_law_number_here"] spBag) (bB : Binds K dB ["_law_number_here"] []) (kB : PySem.W.keepIn K (.ref fB) = true) (mB : mg "_law_bag" = some (.ref fB))
    (GU : FnOk P w K mg base CX0 1 fU dU ["_law_script", "_law_k"] (spNumber K)) (bU : Binds K dU ["_law_script", "_law_k"] []) (kU : PySem.W.keepIn K (.ref fU) = true) (mU : mg "_law_number" = some (.ref fU))
    (GA : FnG P w K mg base 7 fA spAnyR) (kA : PySem.W.keepIn K (.ref fA) = true) (mA : mg "_law_any_right" = some (.ref fA)) : FnG P w K mg base 8 f (spLaw K) := by
  refine FnG.of F scLaw b (fun vs H Q h => ?_) (fun cdv A outer s H vs Q hg hr h => ?_)
  · obtain ⟨a, ns, rfl, _⟩ := h
    rfl
  · obtain ⟨a, ns, rfl, hS, hl, q⟩ := h
    have hr1 := hr.mono (show 1 ≤ 7 by decide)
    have hr2 := hr.mono (show 2 ≤ 7 by decide)
    have hr6 := hr.mono (show 6 ≤ 7 by decide)
    refine ⟨_, pss_cons (ps_set (i := 1) scLaw.nd rfl (.inl rfl) (pe_call GB hr1 (by rfl) mB kB bB .nil pass0 (pa_cons (pe_call GU hr1 (by rfl) mU kU bU .nil pass0 (pa_cons (pv 0) (pa_cons pe_int pa_nil))) pa_nil)))
        (pss_cons (ps_for PassesOwn.never rfl (pi_range1 (by rfl) T.range (pa_cons pe_int pa_nil)) (pg_name (i := 2) scLaw.nd rfl (.inl rfl))
        (pss_cons (ps_par (i := 3) (j := 4) (by rfl) scLaw.nd rfl rfl (by decide) rfl rfl (pa_cons (pe_op op_mod (pe_callTy call_int1 (by rfl) T.int (by decide +kernel) (pa_cons (pv 2) pa_nil)) pe_int) (pa_cons (pe_tup (pa_cons (pv 2) (pa_cons (pe_call GT hr1 (by rfl) mT kT bT .nil pass0 (pa_cons (pv 1) (pa_cons pe_int pa_nil))) (pa_cons (pe_call GT hr1 (by rfl) mT kT bT .nil pass0 (pa_cons (pv 1) (pa_cons pe_int pa_nil))) pa_nil)))) pa_nil)) (by rfl))
        (pss_cons (ps_if (pt_not (pt_val (pe_callG GN hg hr6 (by rfl) mN kN (pa_cons (pe_call GW hr2 (by rfl) mW kW bW .nil pass0 (pa_cons (pe_tup (pa_cons (pv 3) (pa_cons (pe_call GT hr1 (by rfl) mT kT bT .nil pass0 (pa_cons (pv 1) (pa_cons pe_int pa_nil))) (pa_cons pe_int pa_nil)))) pa_nil)) (pa_cons (pe_call GW hr2 (by rfl) mW kW bW .nil pass0 (pa_cons (pv 4) pa_nil)) pa_nil))))) (pss_one (ps_ret pe_bl)) pss_nil)
        (pss_cons (ps_set (i := 4) scLaw.nd rfl (.inl rfl) (pe_tup (pa_cons (pe_call GT hr1 (by rfl) mT kT bT .nil pass0 (pa_cons (pv 1) (pa_cons pe_int pa_nil))) (pa_cons (pv 2) (pa_cons (pe_call GT hr1 (by rfl) mT kT bT .nil pass0 (pa_cons (pv 1) (pa_cons pe_int pa_nil))) pa_nil)))))
        (pss_one (ps_if (pt_not (pt_val (pe_callG GN hg hr6 (by rfl) mN kN (pa_cons (pe_call GW hr2 (by rfl) mW kW bW .nil pass0 (pa_cons (pe_tup (pa_cons (pe_call GT hr1 (by rfl) mT kT bT .nil pass0 (pa_cons (pv 1) (pa_cons pe_int pa_nil))) (pa_cons (pv 3) (pa_cons pe_int pa_nil)))) pa_nil)) (pa_cons (pe_call GW hr2 (by rfl) mW kW bW .nil pass0 (pa_cons (pv 4) pa_nil)) pa_nil))))) (pss_one (ps_ret pe_bl)) pss_nil))))))
        (pss_cons (ps_for PassesOwn.never rfl (pi_range1 (by rfl) T.range (pa_cons (pe_callB (call_max2 rfl) (by rfl) hmax (by decide +kernel) (pa_cons pe_int (pa_cons (pe_callB (call_min2 rfl) (by rfl) hmin (by decide +kernel) (pa_cons (pe_callB call_len_seq (by rfl) T.len PySem.boot_len (pa_cons (pv 0) pa_nil)) (pa_cons pe_int pa_nil))) pa_nil))) pa_nil)) (pg_name (i := 5) scLaw.nd rfl (.inl rfl))
        (pss_cons (ps_set (i := 6) scLaw.nd rfl (.inr rfl) (pe_call GB hr1 (by rfl) mB kB bB .nil pass0 (pa_cons (pe_call GU hr1 (by rfl) mU kU bU .nil pass0 (pa_cons (pv 0) (pa_cons (pv 5) pa_nil))) pa_nil)))
        (pss_one (ps_if (pt_not (pt_val (pe_callB (cr_all (by rfl)) (by rfl) hall (by decide +kernel) (pa_cons (pe_lc (own := [("_law_turn", 7)]) (g := gName 7) (by rfl) scLaw.nd (pi_range1 (by rfl) T.range (pa_cons pe_int pa_nil)) (blkOk_by (own := [("_law_turn", 7)]) (N := ["_law_script", "_law_start", "_law_bound", "_law_some", "_law_other", "_law_k", "_law_bag_here", "_law_turn"]) (sc := defScope sLaw) (by decide +kernel)) (fun _ _ _ _ _ => pg_name (i := 7) scLaw.nd rfl (Or.inl rfl)) (fun _ _ _ _ _ => pts_nil) (fun _ _ _ _ _ => (pe_callG GA hg hr (by rfl) mA kA (pa_cons (pv 6) pa_nil)))) pa_nil)))) (pss_one (ps_ret pe_bl)) pss_nil))))
        (pss_one (ps_ret pe_bl)))), ?_⟩
    refine ⟨_, rfl, a, ns, 0, rfl, hS, hl, by decide, fun n0 H1 s1 => ⟨n0, rfl, fun p pm pd np => ?_⟩⟩
    have hnp : H p = none := s1.free np
    have keep : ∀ {G G' : Hp}, Same H G → Off p G G' → Same H G' := fun s o c x hx => o c x (fun e => by rw [e, hnp] at hx; cases hx) (s c x hx)
    have three : 3 ≤ sizeLine := by decide
    refine ⟨18, rfl, by decide, by decide, for_range (n := 18) (fun _ σ H' => (∃ v2 v3 v4 v5 v6 v7, σ = [some (.ref a), some (.ref p), v2, v3, v4, v5, v6, v7]) ∧ Same H H' ∧ BagAt H' p)
      ⟨⟨_, _, _, _, _, _, rfl⟩, s1.trans (same_new np), _, _, _, upd_same⟩ (fun i σ H0 hi h => ?_) (fun σ H0 h => ?_)⟩
    · obtain ⟨⟨v2, v3, v4, v5, v6, v7, rfl⟩, sm, m0, d0, c0, hp0⟩ := h
      rw [Int.zero_add]
      have e12 : (i : Int) % 12 = ((i % 12 : Nat) : Int) := by omega
      have l12 : i % 12 < 12 := Nat.mod_lt _ (by decide)
      refine ⟨_, rfl, .inl ⟨_, rfl, _, _, rfl, rfl, (by show (0 : Int) < 12; decide), ?_⟩⟩
      refine ⟨_, rfl, ?_⟩
      refine ⟨_, rfl, p, m0, d0, c0, 18, rfl, hp0, by decide, by decide, fun x m1 d1 c1 H1 xn xl hp1 o1 => ?_⟩
      obtain ⟨x, rfl⟩ := Int.eq_ofNat_of_zero_le xn
      have xl : x < 18 := by omega
      refine ⟨_, rfl, p, m1, d1, c1, 2, rfl, hp1, by decide, by decide, fun y m2 d2 c2 H2 yn yl hp2 o2 => ?_⟩
      obtain ⟨y, rfl⟩ := Int.eq_ofNat_of_zero_le yn
      have yl : y < 2 := by omega
      refine ⟨three, fun t nt => ⟨_, _, rfl, ?_⟩⟩
      have ntp : t ≠ p := fun e => by rw [e, hp2] at nt; cases nt
      have k3 := same_new (o := .tup [.int (i : Int), .int (x : Int), .int (y : Int)]) nt
      have hp3 := k3 _ _ hp2
      refine ⟨_, rfl, ?_⟩
      refine ⟨_, rfl, p, m2, d2, c2, 12, rfl, hp3, by decide, by decide, fun z m4 d4 c4 H4 zn zl hp4 o4 => ?_⟩
      obtain ⟨z, rfl⟩ := Int.eq_ofNat_of_zero_le zn
      have zl : z < 12 := by omega
      refine ⟨three, fun u nu => ?_⟩
      have ht4 : H4 t = some (.tup [.int (i : Int), .int (x : Int), .int (y : Int)]) := o4 t _ ntp upd_same
      have k5 := same_new (o := .tup [.int ((i : Int) % 12), .int (z : Int), .int 1]) nu
      refine ⟨u, i % 12, z, 1, rfl, (by rw [← e12]; exact SqT.of upd_same), by omega, by omega, fun H5 s5 => ?_⟩
      refine ⟨_, rfl, t, i, x, y, rfl, SqT.of (s5 _ _ (k5 _ _ ht4)), hi, xl, fun H6 s6 => ?_⟩
      refine ⟨_, _, rfl, rows_ok 1 y l12 zl hi xl, fun H7 s7 => ⟨_, rfl, ?_⟩⟩
      refine iteF ?_
      have k7 : Same H4 H7 := ((k5.trans s5).trans s6).trans s7
      have hp7 := k7 _ _ hp4
      have w7 : Same H H7 := keep sm (((o1.trans o2).trans (Same.off k3)).trans (o4.trans (Same.off k7)))
      refine ⟨_, rfl, p, m4, d4, c4, 18, rfl, hp7, by decide, by decide, fun x2 m8 d8 c8 H8 x2n x2l hp8 o8 => ?_⟩
      obtain ⟨x2, rfl⟩ := Int.eq_ofNat_of_zero_le x2n
      have x2l : x2 < 18 := by omega
      refine ⟨_, rfl, ?_⟩
      refine ⟨_, rfl, p, m8, d8, c8, 2, rfl, hp8, by decide, by decide, fun y2 m9 d9 c9 H9 y2n y2l hp9 o9 => ?_⟩
      obtain ⟨y2, rfl⟩ := Int.eq_ofNat_of_zero_le y2n
      have y2l : y2 < 2 := by omega
      refine ⟨three, fun t2 nt2 => ?_⟩
      have ntp2 : t2 ≠ p := fun e => by rw [e, hp9] at nt2; cases nt2
      have k10 := same_new (o := .tup [.int (x2 : Int), .int (i : Int), .int (y2 : Int)]) nt2
      have hp10 := k10 _ _ hp9
      refine ⟨_, rfl, p, m9, d9, c9, 12, rfl, hp10, by decide, by decide, fun z2 m11 d11 c11 H11 z2n z2l hp11 o11 => ?_⟩
      obtain ⟨z2, rfl⟩ := Int.eq_ofNat_of_zero_le z2n
      have z2l : z2 < 12 := by omega
      refine ⟨_, rfl, three, fun u2 nu2 => ?_⟩
      have ht11 : H11 t2 = some (.tup [.int (x2 : Int), .int (i : Int), .int (y2 : Int)]) := o11 t2 _ ntp2 upd_same
      have k12 := same_new (o := .tup [.int (z2 : Int), .int ((i : Int) % 12), .int 0]) nu2
      refine ⟨u2, z2, i % 12, 0, rfl, (by rw [← e12]; exact SqT.of upd_same), by omega, by omega, fun H12 s12 => ?_⟩
      refine ⟨_, rfl, t2, x2, i, y2, rfl, SqT.of (s12 _ _ (k12 _ _ ht11)), x2l, hi, fun H13 s13 => ?_⟩
      refine ⟨_, _, rfl, rows_ok 0 y2 z2l l12 x2l hi, fun H14 s14 => ⟨_, rfl, ?_⟩⟩
      refine iteF ?_
      have k14 : Same H11 H14 := ((k12.trans s12).trans s13).trans s14
      exact ⟨⟨_, _, _, _, _, _, rfl⟩, keep w7 (((o8.trans o9).trans (Same.off k10)).trans (o11.trans (Same.off k14))), _, _, _, k14 _ _ hp11⟩
    · obtain ⟨⟨v2, v3, v4, v5, v6, v7, rfl⟩, sm, _⟩ := h
      refine ⟨_, rfl, a, _, rfl, .inl (SqL.ext hS sm), _, _, rfl, _, _, rfl, ?_⟩
      rw [List.length_map]
      have hc : ∀ L : Int, 0 ≤ L → -(2 ^ 62) ≤ (if (if (6 : Int) < L then 6 else L) > 2 then (if (6 : Int) < L then 6 else L) else 2) ∧ (if (if (6 : Int) < L then 6 else L) > 2 then (if (6 : Int) < L then 6 else L) else 2) < 2 ^ 62 ∧
          (if (if (6 : Int) < L then 6 else L) > 2 then (if (6 : Int) < L then 6 else L) else 2).toNat ≤ 6 := by
        intro L hL
        split <;> split <;> refine ⟨?_, ?_, ?_⟩ <;> omega
      obtain ⟨hc1, hc2, hc3⟩ := hc (ns.length : Int) (Int.natCast_nonneg _)
      refine ⟨_, rfl, hc1, hc2, for_range (lo := 0) (fun _ σ H' => (∃ v1 v2 v3 v4 v5 v6 v7, σ = [some (.ref a), v1, v2, v3, v4, v5, v6, v7]) ∧ Same H H') ⟨⟨_, _, _, _, _, _, _, rfl⟩, sm⟩ (fun i σ H0 hi h => ?_) (fun σ H0 h => ?_)⟩
      · obtain ⟨⟨v1, v2, v3, v4, v5, v6, v7, rfl⟩, sm⟩ := h
        rw [Int.zero_add]
        refine ⟨_, rfl, _, rfl, a, ns, i, rfl, SqL.ext hS sm, hl, by omega, fun n H1 s1 => ⟨n, rfl, fun pb bm bd nb => ?_⟩⟩
        have s2 : Same H (upd H1 pb (.lst [.int bm, .int bd, .int 0])) := (sm.trans s1).trans (same_new nb)
        refine ⟨8, rfl, by decide, by decide, fun D nD => ?_⟩
        have nDp : D ≠ pb := fun e => by rw [e, upd_same] at nD; cases nD
        have hnb : H pb = none := (sm.trans s1).free nb
        have hnD : H D = none := s2.free nD
        refine lc_range (lo := 0) (n := 8) (fun j H' => Same H H' ∧ BagAt H' pb ∧ ∃ bs : List Bool, H' D = some (.lst (bs.map V.bl)) ∧ bs.all id = true ∧ bs.length = j)
          ⟨s2.trans (same_new nD), ⟨_, _, _, same_new nD _ _ upd_same⟩, [], upd_same, rfl, rfl⟩ (fun j H' hj h => ?_) (fun H' h => ?_)
        · obtain ⟨s3, hb, bs, hD, hall', hlen⟩ := h
          refine ⟨rfl, ?_⟩
          refine ⟨_, rfl, pb, rfl, hb, fun H3 hb3 o3 => ⟨bs.map V.bl, o3 D _ nDp hD, ?_, ?_, ?_, bs ++ [true], ?_, ?_, ?_⟩⟩
          · rw [List.length_map, hlen]
            exact Nat.lt_of_lt_of_le hj (by decide)
          · intro c o hx
            rw [upd_ne (fun e => by rw [e, hnD] at hx; cases hx)]
            exact o3 c o (fun e => by rw [e, hnb] at hx; cases hx) (s3 c o hx)
          · obtain ⟨x1, x2, x3, hx⟩ := hb3
            exact ⟨x1, x2, x3, by rw [upd_ne nDp.symm]; exact hx⟩
          · rw [upd_same, List.map_append]
            all_goals rfl
          · rw [List.all_append, hall']
            rfl
          · rw [List.length_append, hlen]
            rfl
        · obtain ⟨s3, _, bs, hD, hall', _⟩ := h
          refine ⟨D, bs, rfl, SqL.of hD, _, rfl, ?_⟩
          rw [hall']
          refine iteF ?_
          exact ⟨⟨_, _, _, _, _, _, _, rfl⟩, s3⟩
      · exact q _
end
end Sq
namespace Sq
open PySem L2 TL
/-! ### what the top leaves, and the end -/
theorem all_mk {P : Program} {w : World} {K : PySem.W.Frag} {h : Heap} {mg : Str → Option Value} {fa C tO tI : Addr} {dO' dI' : Option Addr} {itO itI : Array Value} {nmO nmI : Nat} {sO' sI' : Array (Option Value)} {u : Tok}
    {fU : Addr} {ocU kVU dcU pmU cdU ctU : Value} {odU anU : Option Addr} {slU : Array (Option Value)}
    {fB : Addr} {ocB kVB dcB pmB cdB ctB : Value} {odB anB : Option Addr} {slB : Array (Option Value)}
    {fT : Addr} {ocT kVT dcT pmT cdT ctT : Value} {odT anT : Option Addr} {slT : Array (Option Value)}
    {fE : Addr} {ocE kVE dcE pmE cdE ctE : Value} {odE anE : Option Addr} {slE : Array (Option Value)}
    {fW : Addr} {ocW kVW dcW pmW cdW ctW : Value} {odW anW : Option Addr} {slW : Array (Option Value)}
    {fN : Addr} {ocN kVN dcN pmN cdN ctN : Value} {odN anN : Option Addr} {slN : Array (Option Value)}
    {fA : Addr} {ocA kVA dcA pmA cdA ctA : Value} {odA anA : Option Addr} {slA : Array (Option Value)}
    {fL : Addr} {ocL kVL dcL pmL cdL ctL : Value} {odL anL : Option Addr} {slL : Array (Option Value)}
    {fF : Addr} {ocF kVF dcF pmF cdF ctF : Value} {odF anF : Option Addr} {slF : Array (Option Value)}
    {fO : Addr} {ocO kVO dcO pmO cdO ctO : Value} {odO anO : Option Addr} {slO : Array (Option Value)}
    {fI : Addr} {ocI kVI dcI pmI cdI ctI : Value} {odI anI : Option Addr} {slI : Array (Option Value)}
    {fP : Addr} {ocP kVP dcP pmP cdP ctP : Value} {odP anP : Option Addr} {slP : Array (Option Value)}
    {fD : Addr} {ocD kVD dcD pmD cdD ctD : Value} {odD anD : Option Addr} {slD : Array (Option Value)}
    {fX : Addr} {ocX kVX dcX pmX cdX ctX : Value} {odX anX : Option Addr} {slX : Array (Option Value)}
    {fm1 : Addr} {ocm1 kVm1 dcm1 pmm1 cdm1 ctm1 : Value} {odm1 anm1 : Option Addr} {slm1 : Array (Option Value)}
    {fm2 : Addr} {ocm2 kVm2 dcm2 pmm2 cdm2 ctm2 : Value} {odm2 anm2 : Option Addr} {slm2 : Array (Option Value)}
    {fm3 : Addr} {ocm3 kVm3 dcm3 pmm3 cdm3 ctm3 : Value} {odm3 anm3 : Option Addr} {slm3 : Array (Option Value)}
    {fm4 : Addr} {ocm4 kVm4 dcm4 pmm4 cdm4 ctm4 : Value} {odm4 anm4 : Option Addr} {slm4 : Array (Option Value)}
    {fg1 pg1 : Addr} {rsg1 : List Value} {ocg1 kVg1 dcg1 pmg1 cdg1 ctg1 : Value} {odg1 ang1 : Option Addr} {slg1 : Array (Option Value)}
    {fg2 pg2 : Addr} {rsg2 : List Value} {ocg2 kVg2 dcg2 pmg2 cdg2 ctg2 : Value} {odg2 ang2 : Option Addr} {slg2 : Array (Option Value)}
    {fg3 pg3 : Addr} {rsg3 : List Value} {ocg3 kVg3 dcg3 pmg3 cdg3 ctg3 : Value} {odg3 ang3 : Option Addr} {slg3 : Array (Option Value)}
    (X : K.In h) (G : h.Ns mainGlobals mg) (hfa : mg "law" = some (.ref fa))
    (aU : PySem.W.nsIn K mainGlobals "_law_number" = some (some (.ref fU))) (lU : K.lookup fU = some ⟨ocU, odU, .func (PySem.W.fnOf "_law_number" "_law_number" (defArgs sNumber) (defBody sNumber) (defScope sNumber) .none kVU dcU pmU anU cdU ctU), slU⟩) (cU : PySem.W.codeIn K cdU "_law_number" = true) (kU : PySem.W.keepIn K (.ref fU) = true)
    (aB : PySem.W.nsIn K mainGlobals "_law_bag" = some (some (.ref fB))) (lB : K.lookup fB = some ⟨ocB, odB, .func (PySem.W.fnOf "_law_bag" "_law_bag" (defArgs sBag) (defBody sBag) (defScope sBag) .none kVB dcB pmB anB cdB ctB), slB⟩) (cB : PySem.W.codeIn K cdB "_law_bag" = true) (kB : PySem.W.keepIn K (.ref fB) = true)
    (aT : PySem.W.nsIn K mainGlobals "_law_take" = some (some (.ref fT))) (lT : K.lookup fT = some ⟨ocT, odT, .func (PySem.W.fnOf "_law_take" "_law_take" (defArgs sTake) (defBody sTake) (defScope sTake) .none kVT dcT pmT anT cdT ctT), slT⟩) (cT : PySem.W.codeIn K cdT "_law_take" = true) (kT : PySem.W.keepIn K (.ref fT) = true)
    (aE : PySem.W.nsIn K mainGlobals "_law_edge_row" = some (some (.ref fE))) (lE : K.lookup fE = some ⟨ocE, odE, .func (PySem.W.fnOf "_law_edge_row" "_law_edge_row" (defArgs sEdge) (defBody sEdge) (defScope sEdge) .none kVE dcE pmE anE cdE ctE), slE⟩) (cE : PySem.W.codeIn K cdE "_law_edge_row" = true) (kE : PySem.W.keepIn K (.ref fE) = true)
    (aW : PySem.W.nsIn K mainGlobals "_law_walk_row" = some (some (.ref fW))) (lW : K.lookup fW = some ⟨ocW, odW, .func (PySem.W.fnOf "_law_walk_row" "_law_walk_row" (defArgs sWalkRow) (defBody sWalkRow) (defScope sWalkRow) .none kVW dcW pmW anW cdW ctW), slW⟩) (cW : PySem.W.codeIn K cdW "_law_walk_row" = true) (kW : PySem.W.keepIn K (.ref fW) = true)
    (aN : PySem.W.nsIn K mainGlobals "_law_taken" = some (some (.ref fN))) (lN : K.lookup fN = some ⟨ocN, odN, .func (PySem.W.fnOf "_law_taken" "_law_taken" (defArgs sTaken) (defBody sTaken) (defScope sTaken) .none kVN dcN pmN anN cdN ctN), slN⟩) (cN : PySem.W.codeIn K cdN "_law_taken" = true) (kN : PySem.W.keepIn K (.ref fN) = true)
    (aA : PySem.W.nsIn K mainGlobals "_law_any_right" = some (some (.ref fA))) (lA : K.lookup fA = some ⟨ocA, odA, .func (PySem.W.fnOf "_law_any_right" "_law_any_right" (defArgs sAnyR) (defBody sAnyR) (defScope sAnyR) .none kVA dcA pmA anA cdA ctA), slA⟩) (cA : PySem.W.codeIn K cdA "_law_any_right" = true) (kA : PySem.W.keepIn K (.ref fA) = true)
    (aL : PySem.W.nsIn K mainGlobals "law" = some (some (.ref fL))) (lL : K.lookup fL = some ⟨ocL, odL, .func (PySem.W.fnOf "law" "law" (defArgs sLaw) (defBody sLaw) (defScope sLaw) .none kVL dcL pmL anL cdL ctL), slL⟩) (cL : PySem.W.codeIn K cdL "law" = true) (kL : PySem.W.keepIn K (.ref fL) = true)
    (aF : PySem.W.nsIn K mainGlobals "first_wrong" = some (some (.ref fF))) (lF : K.lookup fF = some ⟨ocF, odF, .func (PySem.W.fnOf "first_wrong" "first_wrong" (defArgs sFirst) (defBody sFirst) (defScope sFirst) .none kVF dcF pmF anF cdF ctF), slF⟩) (cF : PySem.W.codeIn K cdF "first_wrong" = true) (kF : PySem.W.keepIn K (.ref fF) = true)
    (aO : PySem.W.nsIn K mainGlobals "is_outer_loop" = some (some (.ref fO))) (lO : K.lookup fO = some ⟨ocO, odO, .func (PySem.W.fnOf "is_outer_loop" "is_outer_loop" (defArgs sOuterL) (defBody sOuterL) (defScope sOuterL) .none kVO dcO pmO anO cdO ctO), slO⟩) (cO : PySem.W.codeIn K cdO "is_outer_loop" = true) (kO : PySem.W.keepIn K (.ref fO) = true)
    (aI : PySem.W.nsIn K mainGlobals "is_inner_loop" = some (some (.ref fI))) (lI : K.lookup fI = some ⟨ocI, odI, .func (PySem.W.fnOf "is_inner_loop" "is_inner_loop" (defArgs sInnerL) (defBody sInnerL) (defScope sInnerL) .none kVI dcI pmI anI cdI ctI), slI⟩) (cI : PySem.W.codeIn K cdI "is_inner_loop" = true) (kI : PySem.W.keepIn K (.ref fI) = true)
    (aP : PySem.W.nsIn K mainGlobals "is_loop" = some (some (.ref fP))) (lP : K.lookup fP = some ⟨ocP, odP, .func (PySem.W.fnOf "is_loop" "is_loop" (defArgs sLoop) (defBody sLoop) (defScope sLoop) .none kVP dcP pmP anP cdP ctP), slP⟩) (cP : PySem.W.codeIn K cdP "is_loop" = true) (kP : PySem.W.keepIn K (.ref fP) = true)
    (aD : PySem.W.nsIn K mainGlobals "is_deed" = some (some (.ref fD))) (lD : K.lookup fD = some ⟨ocD, odD, .func (PySem.W.fnOf "is_deed" "is_deed" (defArgs sIsDeed) (defBody sIsDeed) (defScope sIsDeed) .none kVD dcD pmD anD cdD ctD), slD⟩) (cD : PySem.W.codeIn K cdD "is_deed" = true) (kD : PySem.W.keepIn K (.ref fD) = true)
    (aX : PySem.W.nsIn K mainGlobals "wrong_deed" = some (some (.ref fX))) (lX : K.lookup fX = some ⟨ocX, odX, .func (PySem.W.fnOf "wrong_deed" "wrong_deed" (defArgs sWrong) (defBody sWrong) (defScope sWrong) .none kVX dcX pmX anX cdX ctX), slX⟩) (cX : PySem.W.codeIn K cdX "wrong_deed" = true) (kX : PySem.W.keepIn K (.ref fX) = true)
    (aC : PySem.W.nsIn K mainGlobals "Nest" = some (some (.ref C)))
    (am1 : PySem.W.findIn K (.ref C) "__init__" = some (some (.ref fm1))) (im1 : PySem.W.isFn K (.ref fm1) = true) (lm1 : K.lookup fm1 = some ⟨ocm1, odm1, .func (PySem.W.fnOf "__init__" "Nest.__init__" (defArgs sNInit) (defBody sNInit) (defScope sNInit) .none kVm1 dcm1 pmm1 anm1 cdm1 ctm1), slm1⟩) (cm1 : PySem.W.codeIn K cdm1 "Nest.__init__" = true) (km1 : PySem.W.keepIn K (.ref fm1) = true)
    (am2 : PySem.W.findIn K (.ref C) "__len__" = some (some (.ref fm2))) (im2 : PySem.W.isFn K (.ref fm2) = true) (lm2 : K.lookup fm2 = some ⟨ocm2, odm2, .func (PySem.W.fnOf "__len__" "Nest.__len__" (defArgs sNLen) (defBody sNLen) (defScope sNLen) .none kVm2 dcm2 pmm2 anm2 cdm2 ctm2), slm2⟩) (cm2 : PySem.W.codeIn K cdm2 "Nest.__len__" = true) (km2 : PySem.W.keepIn K (.ref fm2) = true)
    (am3 : PySem.W.findIn K (.ref C) "__bool__" = some (some (.ref fm3))) (im3 : PySem.W.isFn K (.ref fm3) = true) (lm3 : K.lookup fm3 = some ⟨ocm3, odm3, .func (PySem.W.fnOf "__bool__" "Nest.__bool__" (defArgs sNBool) (defBody sNBool) (defScope sNBool) .none kVm3 dcm3 pmm3 anm3 cdm3 ctm3), slm3⟩) (cm3 : PySem.W.codeIn K cdm3 "Nest.__bool__" = true) (km3 : PySem.W.keepIn K (.ref fm3) = true)
    (am4 : PySem.W.findIn K (.ref C) "__eq__" = some (some (.ref fm4))) (im4 : PySem.W.isFn K (.ref fm4) = true) (lm4 : K.lookup fm4 = some ⟨ocm4, odm4, .func (PySem.W.fnOf "__eq__" "Nest.__eq__" (defArgs sNEq) (defBody sNEq) (defScope sNEq) .none kVm4 dcm4 pmm4 anm4 cdm4 ctm4), slm4⟩) (cm4 : PySem.W.codeIn K cdm4 "Nest.__eq__" = true) (km4 : PySem.W.keepIn K (.ref fm4) = true)
    (ag1 : PySem.W.findIn K (.ref C) "outer" = some (some (.ref pg1))) (sg1 : PySem.W.specialIn K (.ref pg1) "__get__" = some (some (.builtin "property.__get__"))) (tg1 : PySem.W.takesIn K (.ref pg1) = some true) (rg1 : PySem.W.recIn K pg1 "property" = some (.ref fg1 :: rsg1)) (lg1 : K.lookup fg1 = some ⟨ocg1, odg1, .func (PySem.W.fnOf "outer" "Nest.outer" (defArgs sNOuter) (defBody sNOuter) (defScope sNOuter) .none kVg1 dcg1 pmg1 ang1 cdg1 ctg1), slg1⟩) (cg1 : PySem.W.codeIn K cdg1 "Nest.outer" = true) (kg1 : PySem.W.keepIn K (.ref fg1) = true)
    (ag2 : PySem.W.findIn K (.ref C) "inner" = some (some (.ref pg2))) (sg2 : PySem.W.specialIn K (.ref pg2) "__get__" = some (some (.builtin "property.__get__"))) (tg2 : PySem.W.takesIn K (.ref pg2) = some true) (rg2 : PySem.W.recIn K pg2 "property" = some (.ref fg2 :: rsg2)) (lg2 : K.lookup fg2 = some ⟨ocg2, odg2, .func (PySem.W.fnOf "inner" "Nest.inner" (defArgs sNInner) (defBody sNInner) (defScope sNInner) .none kVg2 dcg2 pmg2 ang2 cdg2 ctg2), slg2⟩) (cg2 : PySem.W.codeIn K cdg2 "Nest.inner" = true) (kg2 : PySem.W.keepIn K (.ref fg2) = true)
    (ag3 : PySem.W.findIn K (.ref C) "deeds" = some (some (.ref pg3))) (sg3 : PySem.W.specialIn K (.ref pg3) "__get__" = some (some (.builtin "property.__get__"))) (tg3 : PySem.W.takesIn K (.ref pg3) = some true) (rg3 : PySem.W.recIn K pg3 "property" = some (.ref fg3 :: rsg3)) (lg3 : K.lookup fg3 = some ⟨ocg3, odg3, .func (PySem.W.fnOf "deeds" "Nest.deeds" (defArgs sNDeeds) (defBody sNDeeds) (defScope sNDeeds) .none kVg3 dcg3 pmg3 ang3 cdg3 ctg3), slg3⟩) (cg3 : PySem.W.codeIn K cdg3 "Nest.deeds" = true) (kg3 : PySem.W.keepIn K (.ref fg3) = true)
    (pg : PySem.W.plainGet K C Str.empty = true)
    (hd : PySem.W.hasDictIn K C = true)
    (po : PySem.W.plainOver K C = true)
    (sa : PySem.W.findIn K (.ref C) "__setattr__" = some (some (.builtin "object.__setattr__")))
    (mk : PySem.W.makesIn K C = true)
    (kc : PySem.W.keepIn K (.ref C) = true)
    (nO : PySem.W.findIn K (.ref C) "_outer" = some none)
    (nI : PySem.W.findIn K (.ref C) "_inner" = some none)
    (nD : PySem.W.findIn K (.ref C) "_deeds" = some none)
    (q1 : PySem.W.findIn K (.ref C) "__class__" = some (some (.builtin "object.__class__")))
    (q2 : PySem.W.specialIn K (.builtin "object.__class__") "__get__" = some (some (.builtin "getset_descriptor.__get__")))
    (q3 : PySem.W.takesIn K (.builtin "object.__class__") = some true)
    (q4 : PySem.W.mroIn K C (.type "object") = some true)
    (ne : PySem.W.findIn K (.ref C) "__ne__" = some (some (.builtin "object.__ne__")))
    (ob : PySem.W.subIn K (.ref C) (.type "object") = some true)
    (bO : PySem.W.nsIn K mainGlobals "OUTER_BOUNDS" = some (some (.ref tO)))
    (jO : K.lookup tO = some ⟨.type "tuple", dO', .seq itO nmO, sO'⟩)
    (bI : PySem.W.nsIn K mainGlobals "BOUNDS_WITH_I" = some (some (.ref tI)))
    (jI : K.lookup tI = some ⟨.type "tuple", dI', .seq itI nmI, sI'⟩)
    (aM : PySem.W.nsIn K mainGlobals "MOST_DEEDS" = some (some (.int 6 u)))
    (z_len : PySem.W.nsIn K mainGlobals "len" = some none)
    (z_int : PySem.W.nsIn K mainGlobals "int" = some none)
    (z_abs : PySem.W.nsIn K mainGlobals "abs" = some none)
    (z_divmod : PySem.W.nsIn K mainGlobals "divmod" = some none)
    (z_range : PySem.W.nsIn K mainGlobals "range" = some none)
    (z_isinstance : PySem.W.nsIn K mainGlobals "isinstance" = some none)
    (z_str : PySem.W.nsIn K mainGlobals "str" = some none)
    (z_enumerate : PySem.W.nsIn K mainGlobals "enumerate" = some none)
    (z_repr : PySem.W.nsIn K mainGlobals "repr" = some none)
    (z_bool : PySem.W.nsIn K mainGlobals "bool" = some none)
    (z_max : PySem.W.nsIn K mainGlobals "max" = some none)
    (z_min : PySem.W.nsIn K mainGlobals "min" = some none)
    (z_all : PySem.W.nsIn K mainGlobals "all" = some none)
    (vO : Vals (obs.map V.str) itO.toList) (hO : itO.size ≤ sizeLine) (vI : Vals (ibs.map V.str) itI.toList) (hI : itI.size ≤ sizeLine) :
    ∀ base : Heap, FnG P w K mg base 8 fa (spLaw K) := by
  intro base
  have e := hfa.symm.trans (PySem.W.mg_of X G aL)
  cases e
  have FU := fun_mk (st := sNumber) lU cU kU
  have FB := fun_mk (st := sBag) lB cB kB
  have FT := fun_mk (st := sTake) lT cT kT
  have FE := fun_mk (st := sEdge) lE cE kE
  have FW := fun_mk (st := sWalkRow) lW cW kW
  have FN := fun_mk (st := sTaken) lN cN kN
  have FA := fun_mk (st := sAnyR) lA cA kA
  have FL := fun_mk (st := sLaw) lL cL kL
  have FF := fun_mk (st := sFirst) lF cF kF
  have FO := fun_mk (st := sOuterL) lO cO kO
  have FI := fun_mk (st := sInnerL) lI cI kI
  have FP := fun_mk (st := sLoop) lP cP kP
  have FD := fun_mk (st := sIsDeed) lD cD kD
  have FX := fun_mk (st := sWrong) lX cX kX
  have Fm1 := fun_mk (st := sNInit) lm1 cm1 km1
  have Fm2 := fun_mk (st := sNLen) lm2 cm2 km2
  have Fm3 := fun_mk (st := sNBool) lm3 cm3 km3
  have Fm4 := fun_mk (st := sNEq) lm4 cm4 km4
  have Fg1 := fun_mk (st := sNOuter) lg1 cg1 kg1
  have Fg2 := fun_mk (st := sNInner) lg2 cg2 kg2
  have Fg3 := fun_mk (st := sNDeeds) lg3 cg3 kg3
  have bU := FU.binds (ps := ["_law_script", "_law_k"]) fun _ _ _ _ _ _ us hl => match us, hl with | [_, _], _ => rfl
  have bB := FB.binds (ps := ["_law_number_here"]) fun _ _ _ _ _ _ us hl => match us, hl with | [_], _ => rfl
  have bT := FT.binds (ps := ["_law_bag_here", "_law_many"]) fun _ _ _ _ _ _ us hl => match us, hl with | [_, _], _ => rfl
  have bE := FE.binds (ps := ["_law_bound"]) fun _ _ _ _ _ _ us hl => match us, hl with | [_], _ => rfl
  have bW := FW.binds (ps := ["_law_walk"]) fun _ _ _ _ _ _ us hl => match us, hl with | [_], _ => rfl
  have bN := FN.binds (ps := ["_law_first", "_law_second"]) fun _ _ _ _ _ _ us hl => match us, hl with | [_, _], _ => rfl
  have bA := FA.binds (ps := ["_law_bag_here"]) fun _ _ _ _ _ _ us hl => match us, hl with | [_], _ => rfl
  have bL := FL.binds (ps := ["_law_script"]) fun _ _ _ _ _ _ us hl => match us, hl with | [_], _ => rfl
  have bF := FF.binds (ps := ["rights", "most"]) fun _ _ _ _ _ _ us hl => match us, hl with | [_, _], _ => rfl
  have bbO := FO.binds (ps := ["value"]) fun _ _ _ _ _ _ us hl => match us, hl with | [_], _ => rfl
  have bbI := FI.binds (ps := ["value"]) fun _ _ _ _ _ _ us hl => match us, hl with | [_], _ => rfl
  have bP := FP.binds (ps := ["value", "bounds"]) fun _ _ _ _ _ _ us hl => match us, hl with | [_, _], _ => rfl
  have bD := FD.binds (ps := ["value"]) fun _ _ _ _ _ _ us hl => match us, hl with | [_], _ => rfl
  have bX := FX.binds (ps := ["deeds"]) fun _ _ _ _ _ _ us hl => match us, hl with | [_], _ => rfl
  have bm2 := Fm2.binds (ps := ["self"]) fun _ _ _ _ _ _ us hl => match us, hl with | [_], _ => rfl
  have bm3 := Fm3.binds (ps := ["self"]) fun _ _ _ _ _ _ us hl => match us, hl with | [_], _ => rfl
  have bm4 := Fm4.binds (ps := ["self", "other"]) fun _ _ _ _ _ _ us hl => match us, hl with | [_, _], _ => rfl
  have bg1 := Fg1.binds (ps := ["self"]) fun _ _ _ _ _ _ us hl => match us, hl with | [_], _ => rfl
  have bg2 := Fg2.binds (ps := ["self"]) fun _ _ _ _ _ _ us hl => match us, hl with | [_], _ => rfl
  have bg3 := Fg3.binds (ps := ["self"]) fun _ _ _ _ _ _ us hl => match us, hl with | [_], _ => rfl
  have T : Bt mg := ⟨(PySem.W.mg_none_of X G z_len), (PySem.W.mg_none_of X G z_int), (PySem.W.mg_none_of X G z_abs), (PySem.W.mg_none_of X G z_divmod), (PySem.W.mg_none_of X G z_range)⟩
  have Kc : Ck K mg := ⟨(PySem.W.mg_none_of X G z_isinstance), (PySem.W.mg_none_of X G z_str)⟩
  have Tb' : Tb K mg tO tI fP fO fI := ⟨PySem.W.mg_of X G bO, fun H => .inr ⟨_, itO, nmO, jO, rfl, rfl, hO, vO⟩, PySem.W.mg_of X G bI, fun H => .inr ⟨_, itI, nmI, jI, rfl, rfl, hI, vI⟩, (PySem.W.mg_of X G aP), (PySem.W.mg_of X G aO), (PySem.W.mg_of X G aI)⟩
  have Nc' : Nc K C := ⟨⟨pg, hd, po, sa⟩, nO, nI, nD⟩
  have GP := ok_loop (P := P) (w := w) (base := base) FP T Kc
  have GO := ok_outer FO Tb' GP bP kP
  have GI := ok_inner FI Tb' GP bP kP
  have GF := ok_first (P := P) (w := w) (base := base) FF (PySem.W.mg_none_of X G z_enumerate)
  have GX := ok_wrong0 FX GF bF kF (PySem.W.mg_of X G aF) bD kD (PySem.W.mg_of X G aD) (PySem.W.mg_of X G aM)
  have GR := ok_initR Fm1 Nc' Tb' GO bbO kO GI bbI kI GX bX kX (PySem.W.mg_of X G aX)
  have GK := ok_initK Fm1 Nc' Tb' GO bbO kO GI bbI kI GX bX kX (PySem.W.mg_of X G aX)
  have NK : NestK P w K mg base C :=
    { nc := Nc', mN := PySem.W.mg_of X G aC, mks := ⟨fm1, ⟨mk, am1, im1, kc⟩, GR, GK⟩,
      p1 := ⟨pg1, fg1, _, ⟨ag1, sg1, tg1, _, rg1⟩, ok_get1 Fg1 Nc', bg1⟩, p2 := ⟨pg2, fg2, _, ⟨ag2, sg2, tg2, _, rg2⟩, ok_get2 Fg2 Nc', bg2⟩, p3 := ⟨pg3, fg3, _, ⟨ag3, sg3, tg3, _, rg3⟩, ok_get3 Fg3 Nc', bg3⟩,
      len := ⟨fm2, am2, im2, Sq.FnOk.asR (ok_nlen Fm2 Nc' T) bm2⟩, bool := ⟨fm3, am3, im3, Sq.FnOk.asR (ok_nbool Fm3) bm3⟩, eq := ⟨fm4, am4, im4, Sq.FnOk.asR (ok_neq Fm4 Nc' ⟨q1, q2, q3, q4⟩ (PySem.W.mg_of X G aC) Kc) bm4⟩, ne := ne, ob := ob }
  have GT := ok_take (P := P) (w := w) (K := K) (base := base) FT T
  have GE := ok_edge (P := P) (w := w) (K := K) (base := base) FE T
  have GW := ok_walkrow FW GE bE kE (PySem.W.mg_of X G aE)
  have GN := ok_taken FN bN T (PySem.W.mg_none_of X G z_repr) (PySem.W.mg_none_of X G z_bool) NK
  have GB := ok_bag (P := P) (w := w) (K := K) (base := base) FB T
  have GU := ok_number (P := P) (w := w) (base := base) FU T
  have GA := ok_anyR FA bA GT bT kT (PySem.W.mg_of X G aT) GW bW kW (PySem.W.mg_of X G aW) GN kN (PySem.W.mg_of X G aN)
  exact ok_law FL bL T (PySem.W.mg_none_of X G z_max) (PySem.W.mg_none_of X G z_min) (PySem.W.mg_none_of X G z_all) GT bT kT (PySem.W.mg_of X G aT) GW bW kW (PySem.W.mg_of X G aW) GN kN (PySem.W.mg_of X G aN) GB bB kB (PySem.W.mg_of X G aB) GU bU kU (PySem.W.mg_of X G aU) GA kA (PySem.W.mg_of X G aA)
end Sq
open PySem PySem.W PyProof.Rows
set_option maxRecDepth 100000 in
set_option maxHeartbeats 0 in
theorem PySem.Challenge.cw_squareloops_k02_loops_of_nests_holds : PySem.Challenge.rw_squareloops_k02_loops_of_nests.Holds := by
  w_on; o_law; k_head; (case hw => w_witness2)
  k_fill
  refine Sq.walkG (l := PySem.Challenge.rw_squareloops_k02_loops_of_nests) (k := 8) (sp := Sq.spLaw) rfl (by decide) rfl ⟨rfl, by decide, by decide⟩ (fun w h Y => PySem.W.kIn_of Y) ?F (fun K H a ns h1 _ h2 => ⟨a, ns, rfl, h2, h1, fun _ => rfl⟩)
  case F =>
    intro w mg fa h KX G hmg base _ _
    refine' Sq.all_mk KX G hmg ?aU ?lU ?cU ?kU ?aB ?lB ?cB ?kB ?aT ?lT ?cT ?kT ?aE ?lE ?cE ?kE ?aW ?lW ?cW ?kW ?aN ?lN ?cN ?kN ?aA ?lA ?cA ?kA ?aL ?lL ?cL ?kL ?aF ?lF ?cF ?kF ?aO ?lO ?cO ?kO ?aI ?lI ?cI ?kI ?aP ?lP ?cP ?kP ?aD ?lD ?cD ?kD ?aX ?lX ?cX ?kX ?aC ?am1 ?im1 ?lm1 ?cm1 ?km1 ?am2 ?im2 ?lm2 ?cm2 ?km2 ?am3 ?im3 ?lm3 ?cm3 ?km3 ?am4 ?im4 ?lm4 ?cm4 ?km4 ?ag1 ?sg1 ?tg1 ?rg1 ?lg1 ?cg1 ?kg1 ?ag2 ?sg2 ?tg2 ?rg2 ?lg2 ?cg2 ?kg2 ?ag3 ?sg3 ?tg3 ?rg3 ?lg3 ?cg3 ?kg3 ?pg ?hd ?po ?sa ?mk ?kc ?nO ?nI ?nD ?q1 ?q2 ?q3 ?q4 ?ne ?ob ?bO ?jO ?bI ?jI ?aM ?z_len ?z_int ?z_abs ?z_divmod ?z_range ?z_isinstance ?z_str ?z_enumerate ?z_repr ?z_bool ?z_max ?z_min ?z_all ?vO ?hO ?vI ?hI base
    (case aU => k_is)
    (case lU => k_is)
    (case cU => k_is)
    (case kU => k_is)
    (case aB => k_is)
    (case lB => k_is)
    (case cB => k_is)
    (case kB => k_is)
    (case aT => k_is)
    (case lT => k_is)
    (case cT => k_is)
    (case kT => k_is)
    (case aE => k_is)
    (case lE => k_is)
    (case cE => k_is)
    (case kE => k_is)
    (case aW => k_is)
    (case lW => k_is)
    (case cW => k_is)
    (case kW => k_is)
    (case aN => k_is)
    (case lN => k_is)
    (case cN => k_is)
    (case kN => k_is)
    (case aA => k_is)
    (case lA => k_is)
    (case cA => k_is)
    (case kA => k_is)
    (case aL => k_is)
    (case lL => k_is)
    (case cL => k_is)
    (case kL => k_is)
    (case aF => k_is)
    (case lF => k_is)
    (case cF => k_is)
    (case kF => k_is)
    (case aO => k_is)
    (case lO => k_is)
    (case cO => k_is)
    (case kO => k_is)
    (case aI => k_is)
    (case lI => k_is)
    (case cI => k_is)
    (case kI => k_is)
    (case aP => k_is)
    (case lP => k_is)
    (case cP => k_is)
    (case kP => k_is)
    (case aD => k_is)
    (case lD => k_is)
    (case cD => k_is)
    (case kD => k_is)
    (case aX => k_is)
    (case lX => k_is)
    (case cX => k_is)
    (case kX => k_is)
    (case aC => k_is)
    (case am1 => k_is)
    (case im1 => k_is)
    (case lm1 => k_is)
    (case cm1 => k_is)
    (case km1 => k_is)
    (case am2 => k_is)
    (case im2 => k_is)
    (case lm2 => k_is)
    (case cm2 => k_is)
    (case km2 => k_is)
    (case am3 => k_is)
    (case im3 => k_is)
    (case lm3 => k_is)
    (case cm3 => k_is)
    (case km3 => k_is)
    (case am4 => k_is)
    (case im4 => k_is)
    (case lm4 => k_is)
    (case cm4 => k_is)
    (case km4 => k_is)
    (case ag1 => k_is)
    (case sg1 => k_is)
    (case tg1 => k_is)
    (case rg1 => k_is)
    (case lg1 => k_is)
    (case cg1 => k_is)
    (case kg1 => k_is)
    (case ag2 => k_is)
    (case sg2 => k_is)
    (case tg2 => k_is)
    (case rg2 => k_is)
    (case lg2 => k_is)
    (case cg2 => k_is)
    (case kg2 => k_is)
    (case ag3 => k_is)
    (case sg3 => k_is)
    (case tg3 => k_is)
    (case rg3 => k_is)
    (case lg3 => k_is)
    (case cg3 => k_is)
    (case kg3 => k_is)
    (case pg => k_is)
    (case hd => k_is)
    (case po => k_is)
    (case sa => k_is)
    (case mk => k_is)
    (case kc => k_is)
    (case nO => k_is)
    (case nI => k_is)
    (case nD => k_is)
    (case q1 => k_is)
    (case q2 => k_is)
    (case q3 => k_is)
    (case q4 => k_is)
    (case ne => k_is)
    (case ob => k_is)
    (case bO => k_is)
    (case jO => k_is)
    (case bI => k_is)
    (case jI => k_is)
    (case aM => k_is)
    (case z_len => k_is)
    (case z_int => k_is)
    (case z_abs => k_is)
    (case z_divmod => k_is)
    (case z_range => k_is)
    (case z_isinstance => k_is)
    (case z_str => k_is)
    (case z_enumerate => k_is)
    (case z_repr => k_is)
    (case z_bool => k_is)
    (case z_max => k_is)
    (case z_min => k_is)
    (case z_all => k_is)
    (case hO => decide)
    (case hI => decide)
    (case vO => repeat (first | exact .nil | refine .cons ⟨_, rfl⟩ ?_))
    (case vI => repeat (first | exact .nil | refine .cons ⟨_, rfl⟩ ?_))
